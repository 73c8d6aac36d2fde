import itertools
import unittest

from movegroups.errors import NoNormal, NoTable, TooGreat
from movegroups.quotients import product, quotient, sub_table
from movegroups.subs import cosets, is_normal, normal_subs, subs
from movegroups.tables import Table

from tests.kit import by_place_and_name, just, refused
from tests.lines import GREAT_TABLES, TABLES, TWO, cyclic, dihedral, keeps, named, paired, renamed
from tests.test_subs import THREE
from tests.wrong import NO_TABLES, refuse_subs, refuse_tables


class SubTableTest(unittest.TestCase):
    """[21]"""

    def test_by_hand(self):
        for table in TABLES:
            for sub in subs(table):
                told = sub_table(table, sub)
                self.assertEqual(len(told), len(sub))
                for one, other in itertools.product(range(len(sub)), repeat=2):
                    self.assertEqual(sub[told.lines[one][other]], table.lines[sub[one]][sub[other]])

    def test_known_groups(self):
        just(self, sub_table(THREE, (0, 3, 4)).lines, cyclic(3))
        just(self, sub_table(THREE, (0, 5)).lines, TWO)
        just(self, sub_table(THREE, (0,)).lines, ((0,),))
        just(self, sub_table(Table(cyclic(48)), tuple(range(0, 48, 3))).lines, cyclic(16))
        for table in TABLES + GREAT_TABLES:
            self.assertEqual(sub_table(table, tuple(range(len(table)))), table)

    def test_refused(self):
        refuse_tables(self, sub_table, (0,))
        refuse_subs(self, sub_table)
        self.assertEqual(by_place_and_name(self, sub_table, table=THREE, sub=(0, 2)), Table(TWO))


class QuotientTest(unittest.TestCase):
    """[21]"""

    def test_by_hand(self):
        for table in TABLES:
            for sub in normal_subs(table):
                told, images = quotient(table, sub)
                self.assertIs(type(quotient(table, sub)), tuple)
                self.assertEqual(len(told) * len(sub), len(table))
                parts = cosets(table, sub)
                just(self, images, tuple([one in part for part in parts].index(True) for one in range(len(table))))
                self.assertTrue(keeps(table.lines, told.lines, images))
                self.assertEqual(tuple(one for one in range(len(table)) if images[one] == 0), sub)

    def test_known_groups(self):
        table, images = quotient(THREE, (0, 3, 4))
        just(self, (table.lines, images), (TWO, (0, 1, 1, 0, 0, 1)))
        table, images = quotient(THREE, (0, 1, 2, 3, 4, 5))
        just(self, (table.lines, images), (((0,),), (0, 0, 0, 0, 0, 0)))
        table, images = quotient(Table(cyclic(48)), (0, 12, 24, 36))
        just(self, (table.lines, images), (cyclic(12), tuple(one % 12 for one in range(48))))
        table, images = quotient(Table(cyclic(1)), (0,))
        just(self, (table.lines, images), (((0,),), (0,)))
        for table in TABLES + GREAT_TABLES:
            just(self, quotient(table, (0,))[1], tuple(range(len(table))))
            self.assertEqual(quotient(table, (0,))[0], table)

    def test_no_normal(self):
        for sub in [(0, 1), (0, 2), (0, 5)]:
            refused(self, NoNormal, quotient, THREE, sub)
        refused(self, NoNormal, quotient, Table(dihedral(24)), (0, 47))
        for table in TABLES:
            for sub in subs(table):
                if not is_normal(table, sub):
                    refused(self, NoNormal, quotient, table, sub)

    def test_refused(self):
        refuse_tables(self, quotient, (0,))
        refuse_tables(self, quotient, (0, 1))
        refuse_subs(self, quotient)
        table, images = by_place_and_name(self, quotient, table=Table(cyclic(4)), sub=(0, 2))
        just(self, (table.lines, images), (TWO, (0, 1, 0, 1)))


class ProductTest(unittest.TestCase):
    """[21]"""

    def test_by_hand(self):
        for one, other in itertools.product(TABLES[::3], TABLES[1::4]):
            if len(one) * len(other) <= 48:
                just(self, product(one, other).lines, paired(one.lines, other.lines))

    def test_numbering(self):
        told = product(THREE, Table(cyclic(4)))
        for a, b, c, d in itertools.product(range(6), range(4), range(6), range(4)):
            just(self, told.lines[a * 4 + b][c * 4 + d], THREE.lines[a][c] * 4 + (b + d) % 4)
        just(self, product(Table(cyclic(2)), Table(cyclic(3))).lines[1], (1, 2, 0, 4, 5, 3))
        just(self, product(Table(cyclic(3)), Table(cyclic(2))).lines[1], (1, 0, 3, 2, 5, 4))

    def test_edges(self):
        one = Table(cyclic(1))
        for table in TABLES + GREAT_TABLES:
            self.assertEqual(product(table, one), table)
            self.assertEqual(product(one, table), table)
        just(self, len(product(Table(renamed(cyclic(6), 1)), Table(cyclic(8)))), 48)
        just(self, len(product(Table(cyclic(8)), named("dihedral 6"))), 48)
        just(self, len(product(Table(cyclic(24)), Table(TWO))), 48)

    def test_too_great(self):
        for first, second in [(7, 7), (7, 8), (25, 2), (2, 25), (48, 2), (2, 48), (48, 48), (5, 10), (17, 3)]:
            error = refused(self, TooGreat, product, Table(cyclic(first)), Table(cyclic(second)))
            just(self, (error.many, error.most), (first * second, 48))

    def test_refused(self):
        refuse_tables(self, product, Table(TWO))
        for thing in NO_TABLES:
            self.assertIsNone(refused(self, NoTable, product, Table(TWO), thing).fault)
            self.assertIsNone(refused(self, NoTable, product, Table(cyclic(48)), thing).fault)
        self.assertEqual(by_place_and_name(self, product, one=Table(TWO), other=Table(cyclic(1))), Table(TWO))


if __name__ == "__main__":
    unittest.main()
