import itertools
import unittest

from movegroups.errors import NoTable, TooGreat
from movegroups.subs import cosets, generated, is_normal, kinds_of_subs, leading, normal_subs, subs
from movegroups.tables import Table

from tests.kit import ODD, by_place_and_name, just, refused
from tests.lines import (
    GREAT, GREAT_TABLES, TABLES, back_of, closed, cyclic, dihedral, is_sub, made, named, paired, renamed, subs_by_hand)
from tests.wrong import refuse_parts, refuse_subs, refuse_tables

THREE = Table(((0, 1, 2, 3, 4, 5), (1, 0, 4, 5, 2, 3), (2, 3, 0, 1, 5, 4), (3, 2, 5, 4, 0, 1), (4, 5, 1, 0, 3, 2), (5, 4, 3, 2, 1, 0)))
ALL = TABLES + GREAT_TABLES
# By name: how many SUBs, kinds of them, normal ones.
MANY = {
    "cyclic 1": (1, 1, 1), "cyclic 2": (2, 2, 2), "cyclic 24": (8, 8, 8), "cyclic 23": (2, 2, 2), "four": (5, 5, 5),
    "dihedral 6": (6, 4, 3), "dihedral 8": (10, 8, 6), "dicyclic 8": (6, 6, 6), "twos": (16, 16, 16), "twelve": (10, 5, 3),
    "all twos": (67, 67, 67), "threes": (6, 6, 6), "twenty-four": (30, 11, 4), "special": (15, 7, 4),
    "dihedral 24": (34, 16, 9), "fours": (15, 15, 15), "seven by three": (10, 4, 3), "five by four": (14, 6, 4),
    "eight and two": (19, 19, 19), "dihedral 22": (14, 4, 3),
}


def rising(parts):
    """PARTs in their turn: the shorter ones first, of a length rising."""
    return sorted(parts, key=lambda part: (len(part), part))


def led(lines, part, by):
    """PART's members' conjugates by BY."""
    return tuple(sorted(made(lines, back_of(lines, by), one, by) for one in part))


class GeneratedTest(unittest.TestCase):
    """[18]"""

    def test_generated(self):
        for table in ALL:
            for part in [(), (0,), (len(table) - 1,), tuple(range(len(table)))]:
                just(self, generated(table, part), closed(table.lines, part))
        for table in TABLES:
            for part in itertools.combinations(range(0, len(table), 2), 2):
                just(self, generated(table, part), closed(table.lines, part))

    def test_generated_of_nothing(self):
        for table in ALL:
            just(self, generated(table, ()), (0,))
            just(self, generated(table, (0,)), (0,))

    def test_generated_of_known_groups(self):
        just(self, generated(THREE, (1,)), (0, 1))
        just(self, generated(THREE, (3,)), (0, 3, 4))
        just(self, generated(THREE, (1, 5)), (0, 1, 2, 3, 4, 5))
        just(self, generated(Table(cyclic(48)), (18, 32)), tuple(range(0, 48, 2)))
        just(self, generated(Table(cyclic(48)), (47,)), tuple(range(48)))

    def test_generated_refused(self):
        refuse_tables(self, generated, ())
        refuse_parts(self, generated)
        just(self, by_place_and_name(self, generated, table=THREE, part=(4,)), (0, 3, 4))

    def test_leading(self):
        for table in ALL:
            told, sub = [], (0,)
            while len(sub) < len(table):
                told.append(min(set(range(len(table))) - set(sub)))
                sub = closed(table.lines, told)
            just(self, leading(table), tuple(told))
            self.assertLessEqual(2 ** len(told), len(table))

    def test_leading_of_known_groups(self):
        just(self, leading(Table(cyclic(1))), ())
        just(self, leading(Table(cyclic(48))), (1,))
        just(self, leading(THREE), (1, 2))
        just(self, leading(Table(GREAT["five twos"])), (1, 2, 4, 8, 16))
        just(self, leading(Table(paired(cyclic(2), cyclic(24)))), (1, 24))
        just(self, leading(Table(paired(cyclic(24), cyclic(2)))), (1, 2))
        refuse_tables(self, leading)
        just(self, by_place_and_name(self, leading, table=THREE), (1, 2))


class CosetsTest(unittest.TestCase):
    """[18]"""

    def test_by_hand(self):
        for table in ALL:
            lines = table.lines
            for part in [(), (1,), (len(table) - 1,), (1, 2)]:
                sub = closed(lines, [one for one in part if one < len(table)])
                behind = {tuple(sorted(lines[one][other] for one in sub)) for other in range(len(lines))}
                ahead = {tuple(sorted(lines[other][one] for one in sub)) for other in range(len(lines))}
                just(self, cosets(table, sub), tuple(sorted(behind)))
                just(self, cosets(table, sub, left=False), tuple(sorted(behind)))
                just(self, cosets(table, sub, left=True), tuple(sorted(ahead)))
                just(self, is_normal(table, sub), behind == ahead)

    def test_known_groups(self):
        just(self, cosets(THREE, (0, 1)), ((0, 1), (2, 4), (3, 5)))
        just(self, cosets(THREE, (0, 1), left=True), ((0, 1), (2, 3), (4, 5)))
        just(self, cosets(THREE, (0, 3, 4)), ((0, 3, 4), (1, 2, 5)))
        just(self, cosets(THREE, (0, 3, 4), left=True), ((0, 3, 4), (1, 2, 5)))
        just(self, cosets(THREE, (0,)), tuple((one,) for one in range(6)))
        just(self, cosets(THREE, (0, 1, 2, 3, 4, 5), left=True), ((0, 1, 2, 3, 4, 5),))
        just(self, cosets(Table(cyclic(1)), (0,)), ((0,),))
        just(self, cosets(Table(cyclic(48)), (0, 24)), tuple((one, one + 24) for one in range(24)))

    def test_is_normal(self):
        just(self, is_normal(THREE, (0, 1)), False)
        just(self, is_normal(THREE, (0, 3, 4)), True)
        just(self, is_normal(THREE, (0,)), True)
        just(self, is_normal(THREE, (0, 1, 2, 3, 4, 5)), True)
        just(self, is_normal(Table(dihedral(24)), (0, 24)), False)
        just(self, is_normal(Table(dihedral(24)), (0, 12)), True)
        for table in ALL:
            just(self, is_normal(table, (0,)), True)

    def test_refused(self):
        refuse_tables(self, cosets, (0,))
        refuse_tables(self, cosets, (0,), left=True)
        refuse_tables(self, is_normal, (0,))
        refuse_subs(self, cosets)
        refuse_subs(self, cosets, left=True)
        refuse_subs(self, is_normal)

    def test_arguments(self):
        just(self, by_place_and_name(self, is_normal, table=THREE, sub=(0, 1)), False)
        just(self, by_place_and_name(self, cosets, table=THREE, sub=(0, 1)), ((0, 1), (2, 4), (3, 5)))
        just(self, cosets(left=True, sub=(0, 1), table=THREE), ((0, 1), (2, 3), (4, 5)))
        with self.assertRaises(TypeError):
            cosets(THREE, (0, 1), True)


class SubsTest(unittest.TestCase):
    """[19]"""

    def test_through_all_parts(self):
        for table in TABLES:
            if len(table) <= 12:
                just(self, subs(table), tuple(rising(subs_by_hand(table.lines))))

    def test_by_few_members(self):
        # No SUB of these orders needs more than four members.
        for table in TABLES:
            few = 4 if len(table) == 16 else 3
            met = {closed(table.lines, ())}
            for one in range(few):
                met |= {closed(table.lines, part + (member,)) for part in list(met) for member in range(1, len(table))}
            just(self, subs(table), tuple(rising(met)))

    def test_known_groups(self):
        for name, (many, kinds, normal) in MANY.items():
            for table in (named(name), Table(renamed(named(name).lines, 19))):
                just(self, (len(subs(table)), len(kinds_of_subs(table)), len(normal_subs(table))), (many, kinds, normal))
        just(self, subs(THREE), ((0,), (0, 1), (0, 2), (0, 5), (0, 3, 4), (0, 1, 2, 3, 4, 5)))
        just(self, kinds_of_subs(THREE), (((0,),), ((0, 1), (0, 2), (0, 5)), ((0, 3, 4),), ((0, 1, 2, 3, 4, 5),)))
        just(self, normal_subs(THREE), ((0,), (0, 3, 4), (0, 1, 2, 3, 4, 5)))
        just(self, subs(Table(cyclic(1))), ((0,),))
        just(self, kinds_of_subs(Table(cyclic(1))), (((0,),),))
        just(self, normal_subs(Table(cyclic(1))), ((0,),))
        just(self, subs(Table(cyclic(24)))[:4], ((0,), (0, 12), (0, 8, 16), (0, 6, 12, 18)))

    def test_each_is_a_sub_and_there_once(self):
        for table in TABLES:
            told = subs(table)
            self.assertEqual(list(told), rising(set(told)))
            self.assertTrue(all(is_sub(table.lines, sub) for sub in told))

    def test_kinds(self):
        for table in TABLES:
            told = kinds_of_subs(table)
            all_of = subs(table)
            self.assertEqual(rising(sum(told, ())), list(all_of))
            firsts = [all_of.index(kind[0]) for kind in told]
            self.assertEqual(firsts, sorted(firsts))
            for kind in told:
                just(self, kind, tuple(sorted({led(table.lines, kind[0], by) for by in range(len(table))})))

    def test_normal(self):
        for table in TABLES:
            alone = [sub for sub in subs(table) if all(led(table.lines, sub, by) == sub for by in range(len(table)))]
            just(self, normal_subs(table), tuple(alone))
            just(self, normal_subs(table), tuple(kind[0] for kind in kinds_of_subs(table) if len(kind) == 1))

    def test_refused(self):
        for call in (subs, kinds_of_subs, normal_subs):
            refuse_tables(self, call)
            for many in (25, 26, 47, 48):
                error = refused(self, TooGreat, call, Table(cyclic(many)))
                just(self, (error.many, error.most), (many, 24))
            for table in GREAT_TABLES:
                just(self, refused(self, TooGreat, call, table).many, len(table))
            just(self, by_place_and_name(self, call, table=Table(cyclic(24))), call(Table(cyclic(24))))
            for thing in ODD:
                self.assertIsNone(refused(self, NoTable, call, thing).fault)


if __name__ == "__main__":
    unittest.main()
