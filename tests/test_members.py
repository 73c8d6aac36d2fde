import random
import unittest

from movegroups.errors import NoMember, NoNumber, NoPart
from movegroups.members import (
    back, centralizer, centre, classes, commutator, conjugate, normalizer, order_of, orders, power, times)
from movegroups.tables import Table

from tests.kit import ODD, TEXTS, by_place_and_name, just, refused
from tests.lines import GREAT_TABLES, KNOWN, TABLES, back_of, cyclic, is_sub, made, named, order, renamed
from tests.wrong import no_members, refuse_members, refuse_parts, refuse_tables

ALL = TABLES + GREAT_TABLES
LITTLE = [table for table in ALL if len(table) <= 24]
# The moves of three points, by their ranks: 1 and 2 and 5 are turned back by themselves, 3 and 4 by one another.
THREE = Table(((0, 1, 2, 3, 4, 5), (1, 0, 4, 5, 2, 3), (2, 3, 0, 1, 5, 4), (3, 2, 5, 4, 0, 1), (4, 5, 1, 0, 3, 2), (5, 4, 3, 2, 1, 0)))


def parts_of(table, seed):
    """Some PARTs, whatever they are."""
    chance = random.Random(seed)
    all_of = range(len(table))
    told = [(), (0,), tuple(all_of)]
    return told + [tuple(sorted(chance.sample(all_of, chance.randint(1, len(table))))) for _ in range(4)]


class MakingTest(unittest.TestCase):
    """[16]"""

    def test_times(self):
        for table in ALL:
            for one in range(0, len(table), 3):
                for other in range(len(table)):
                    just(self, times(table, one, other), table.lines[one][other])
        just(self, times(THREE, 1, 2), 4)
        just(self, times(THREE, 2, 1), 3)
        refuse_tables(self, times, 0, 0)
        refuse_members(self, times, 0)
        for thing in no_members(6):
            refused(self, NoMember, times, THREE, 5, thing)
        just(self, by_place_and_name(self, times, table=THREE, one=1, other=2), 4)

    def test_back(self):
        for table in ALL:
            for one in range(len(table)):
                just(self, back(table, one), back_of(table.lines, one))
                just(self, times(table, back(table, one), one), 0)
        just(self, [back(THREE, one) for one in range(6)], [0, 1, 2, 4, 3, 5])
        refuse_tables(self, back, 0)
        refuse_members(self, back)
        just(self, by_place_and_name(self, back, table=THREE, one=3), 4)

    def test_power(self):
        for table in LITTLE:
            for one in range(len(table)):
                just(self, power(table, one, 0), 0)
                just(self, power(table, one, 1), one)
                just(self, power(table, one, -1), back_of(table.lines, one))
                for many in (2, 3, 5, 30, 49):
                    just(self, power(table, one, many), made(table.lines, *[one] * many))
                    just(self, power(table, one, -many), made(table.lines, *[back_of(table.lines, one)] * many))

    def test_power_by_great_numbers(self):
        for many in (10 ** 39, 10 ** 40 - 1, 7 * 10 ** 39 + 13, 2 ** 131):
            for table in ALL[::3]:
                for one in range(len(table)):
                    left = many % order(table.lines, one)
                    just(self, power(table, one, many), made(table.lines, *[one] * left))
                    just(self, power(table, one, -many), back_of(table.lines, made(table.lines, *[one] * left)))
        just(self, power(Table(cyclic(48)), 1, 10 ** 39), 10 ** 39 % 48)
        just(self, power(Table(cyclic(48)), 1, -10 ** 39), -10 ** 39 % 48)
        just(self, power(Table(cyclic(1)), 0, -10 ** 39), 0)

    def test_power_refused(self):
        refuse_tables(self, power, 0, 0)
        refuse_members(self, power, 0)
        for thing in ODD + TEXTS:
            refused(self, NoNumber, power, THREE, 1, thing)
        just(self, by_place_and_name(self, power, table=THREE, one=3, many=-1), 4)

    def test_order_of(self):
        for table in ALL:
            for one in range(len(table)):
                just(self, order_of(table, one), order(table.lines, one))
        just(self, order_of(Table(cyclic(48)), 1), 48)
        just(self, order_of(Table(cyclic(1)), 0), 1)
        refuse_tables(self, order_of, 0)
        refuse_members(self, order_of)
        just(self, by_place_and_name(self, order_of, table=THREE, one=3), 3)

    def test_commutator(self):
        # The back of 1 is 1, that of 2 is 2: 1 2 1 2 is 4 4, which is 3; the other way round it is 4.
        just(self, commutator(THREE, 1, 2), 3)
        just(self, commutator(THREE, 2, 1), 4)
        just(self, commutator(THREE, 3, 1), made(THREE.lines, 4, 1, 3, 1))
        for table in LITTLE:
            for one in range(len(table)):
                for other in range(0, len(table), 2):
                    backs = back_of(table.lines, one), back_of(table.lines, other)
                    just(self, commutator(table, one, other), made(table.lines, *backs, one, other))
        refuse_tables(self, commutator, 0, 0)
        refuse_members(self, commutator, 0)
        for thing in no_members(6):
            refused(self, NoMember, commutator, THREE, 5, thing)
        just(self, by_place_and_name(self, commutator, table=THREE, one=1, other=2), 3)

    def test_commutator_by_its_turn(self):
        # That the backs stand in front, and that of the one ahead, is seen only in some groups.
        lines = KNOWN["twenty-four"]
        others = [lambda a, b, x, y: (x, y, a, b), lambda a, b, x, y: (b, a, x, y), lambda a, b, x, y: (a, b, y, x)]
        for turn in others:
            self.assertTrue(any(
                commutator(Table(lines), one, other) != made(lines, *turn(back_of(lines, one), back_of(lines, other), one, other))
                for one in range(24) for other in range(24)))

    def test_conjugate(self):
        just(self, conjugate(THREE, 1, 3), made(THREE.lines, 4, 1, 3))
        self.assertNotEqual(conjugate(THREE, 1, 3), made(THREE.lines, 3, 1, 4))
        for table in LITTLE:
            for one in range(len(table)):
                for by in range(0, len(table), 2):
                    just(self, conjugate(table, one, by), made(table.lines, back_of(table.lines, by), one, by))
        refuse_tables(self, conjugate, 0, 0)
        refuse_members(self, conjugate, 0)
        for thing in no_members(6):
            refused(self, NoMember, conjugate, THREE, 5, thing)
        just(self, by_place_and_name(self, conjugate, table=THREE, one=1, by=3), 2)

    def test_orders(self):
        for table in ALL:
            found = [order(table.lines, one) for one in range(len(table))]
            just(self, orders(table), tuple((many, found.count(many)) for many in sorted(set(found))))
        just(self, orders(Table(cyclic(1))), ((1, 1),))
        just(self, orders(THREE), ((1, 1), (2, 3), (3, 2)))
        just(self, orders(Table(cyclic(48))), (
            (1, 1), (2, 1), (3, 2), (4, 2), (6, 2), (8, 4), (12, 4), (16, 8), (24, 8), (48, 16)))
        just(self, orders(named("twenty-four")), ((1, 1), (2, 9), (3, 8), (4, 6)))
        refuse_tables(self, orders)
        just(self, by_place_and_name(self, orders, table=Table(cyclic(2))), ((1, 1), (2, 1)))


class ClassesTest(unittest.TestCase):
    """[17]"""

    def test_classes(self):
        for table in ALL:
            told = classes(table)
            self.assertEqual(sorted(member for part in told for member in part), list(range(len(table))))
            self.assertEqual([part[0] for part in told], sorted(part[0] for part in told))
            for part in told:
                backs = [(back_of(table.lines, by), by) for by in range(len(table))]
                just(self, part, tuple(sorted({made(table.lines, one, part[0], by) for one, by in backs})))
        just(self, classes(THREE), ((0,), (1, 2, 5), (3, 4)))
        just(self, sorted(len(part) for part in classes(named("twenty-four"))), [1, 3, 6, 6, 8])

    def test_classes_where_the_turn_is_no_matter(self):
        for many in (1, 2, 24, 48):
            just(self, classes(Table(renamed(cyclic(many), 5))), tuple((one,) for one in range(many)))

    def test_a_class_has_all_by_its_centralizer(self):
        for table in ALL:
            for part in classes(table):
                for one in part:
                    self.assertEqual(len(part) * len(centralizer(table, (one,))), len(table))

    def test_centralizer(self):
        for table in LITTLE:
            lines = table.lines
            for part in parts_of(table, 17):
                told = centralizer(table, part)
                just(self, told, tuple(
                    one for one in range(len(lines)) if all(lines[one][other] == lines[other][one] for other in part)))
                self.assertTrue(is_sub(lines, told))
            just(self, centralizer(table, ()), tuple(range(len(table))))
            just(self, centralizer(table, (0,)), tuple(range(len(table))))
        just(self, centralizer(THREE, (1,)), (0, 1))
        just(self, centralizer(THREE, (3,)), (0, 3, 4))
        just(self, centralizer(THREE, (1, 3)), (0,))
        just(self, centralizer(THREE, (0, 1, 2, 3, 4, 5)), (0,))

    def test_normalizer(self):
        for table in LITTLE:
            lines = table.lines
            for part in parts_of(table, 18):
                told = normalizer(table, part)
                just(self, told, tuple(
                    by for by in range(len(lines))
                    if {made(lines, back_of(lines, by), one, by) for one in part} == set(part)))
                self.assertTrue(is_sub(lines, told))
            for part in ((), (0,), tuple(range(len(table)))):
                just(self, normalizer(table, part), tuple(range(len(table))))
        just(self, normalizer(THREE, (1,)), (0, 1))
        just(self, normalizer(THREE, (3,)), (0, 3, 4))
        just(self, normalizer(THREE, (3, 4)), (0, 1, 2, 3, 4, 5))
        just(self, normalizer(THREE, (1, 2)), (0, 5))

    def test_centre(self):
        for table in ALL:
            just(self, centre(table), centralizer(table, tuple(range(len(table)))))
            just(self, centre(table), tuple(part[0] for part in classes(table) if len(part) == 1))
        just(self, centre(THREE), (0,))
        just(self, centre(Table(cyclic(48))), tuple(range(48)))
        just(self, len(centre(named("dicyclic 24"))), 2)

    def test_refused(self):
        for call in (classes, centre):
            refuse_tables(self, call)
        for call in (centralizer, normalizer):
            refuse_tables(self, call, ())
            refuse_parts(self, call)
            just(self, by_place_and_name(self, call, table=THREE, part=(1,)), (0, 1))
        just(self, by_place_and_name(self, classes, table=THREE), ((0,), (1, 2, 5), (3, 4)))
        just(self, by_place_and_name(self, centre, table=THREE), (0,))

    def test_what_is_handed_in_stays(self):
        part = (1, 2)
        ahead = THREE.lines
        for call in (centralizer, normalizer):
            just(self, call(THREE, part), call(THREE, part))
        self.assertIs(THREE.lines, ahead)
        just(self, part, (1, 2))
        wrong = [1, 2]
        self.assertIs(refused(self, NoPart, centralizer, THREE, wrong).what, wrong)
        just(self, wrong, [1, 2])


if __name__ == "__main__":
    unittest.main()
