import unittest

from movegroups.series import derived, derived_series, lower_series
from movegroups.tables import Table

from tests.kit import by_place_and_name, just
from tests.lines import GREAT_TABLES, KNOWN, TABLES, back_of, closed, cyclic, dihedral, made, named, renamed
from tests.test_subs import THREE
from tests.wrong import refuse_subs, refuse_tables

ALL = TABLES + GREAT_TABLES
# By name: how long the SUBs of the derived series are, and those of the lower one.
LENGTHS = {
    "cyclic 1": ((1,), (1,)), "cyclic 2": ((2, 1), (2, 1)), "cyclic 48": ((48, 1), (48, 1)), "all twos": ((16, 1), (16, 1)),
    "dihedral 6": ((6, 3, 1), (6, 3)), "dihedral 8": ((8, 2, 1), (8, 2, 1)), "dicyclic 8": ((8, 2, 1), (8, 2, 1)),
    "dihedral 16": ((16, 4, 1), (16, 4, 2, 1)), "dihedral 24": ((24, 6, 1), (24, 6, 3)), "half turned": ((16, 4, 1), (16, 4, 2, 1)),
    "twelve": ((12, 4, 1), (12, 4)), "twenty-four": ((24, 12, 4, 1), (24, 12)), "special": ((24, 8, 2, 1), (24, 8)),
    "dihedral 48": ((48, 12, 1), (48, 12, 6, 3)), "seven by three": ((21, 7, 1), (21, 7)), "five by four": ((20, 5, 1), (20, 5)),
    "turns and three": ((18, 3, 1), (18, 3)),
}


def by_hand(lines, some, others):
    """What all commutators of one of SOME and one of OTHERS generate."""
    backs = [back_of(lines, one) for one in range(len(lines))]
    return closed(lines, {made(lines, backs[one], backs[other], one, other) for one in some for other in others})


class DerivedTest(unittest.TestCase):
    """[20]"""

    def test_by_hand(self):
        for table in ALL:
            for part in [(), (1,), (1, 2), (len(table) - 1,), range(len(table))]:
                sub = closed(table.lines, [one for one in part if one < len(table)])
                just(self, derived(table, sub), by_hand(table.lines, sub, sub))

    def test_known_groups(self):
        just(self, derived(THREE, (0, 1, 2, 3, 4, 5)), (0, 3, 4))
        just(self, derived(THREE, (0, 3, 4)), (0,))
        just(self, derived(THREE, (0, 1)), (0,))
        just(self, derived(THREE, (0,)), (0,))
        just(self, derived(Table(cyclic(1)), (0,)), (0,))
        just(self, derived(Table(dihedral(24)), tuple(range(48))), tuple(range(0, 24, 2)))

    def test_refused(self):
        refuse_tables(self, derived, (0,))
        refuse_subs(self, derived)
        just(self, by_place_and_name(self, derived, table=THREE, sub=(0, 3, 4)), (0,))


class SeriesTest(unittest.TestCase):
    """[20]"""

    def test_derived_series_by_hand(self):
        for table in ALL:
            told = derived_series(table)
            just(self, told[0], tuple(range(len(table))))
            for one, further in zip(told, told[1:] + told[-1:]):
                just(self, further, by_hand(table.lines, one, one))
            self.assertEqual(len(set(told)), len(told))

    def test_lower_series_by_hand(self):
        for table in ALL:
            told = lower_series(table)
            just(self, told[0], tuple(range(len(table))))
            for one, further in zip(told, told[1:] + told[-1:]):
                just(self, further, by_hand(table.lines, one, told[0]))
            self.assertEqual(len(set(told)), len(told))

    def test_lengths(self):
        for name, (lengths, lower) in LENGTHS.items():
            for table in (named(name), Table(renamed(named(name).lines, 20))):
                just(self, tuple(len(sub) for sub in derived_series(table)), lengths)
                just(self, tuple(len(sub) for sub in lower_series(table)), lower)

    def test_known_groups(self):
        just(self, derived_series(THREE), ((0, 1, 2, 3, 4, 5), (0, 3, 4), (0,)))
        just(self, lower_series(THREE), ((0, 1, 2, 3, 4, 5), (0, 3, 4)))
        just(self, derived_series(Table(cyclic(3))), ((0, 1, 2), (0,)))
        just(self, lower_series(Table(cyclic(3))), ((0, 1, 2), (0,)))
        just(self, derived_series(Table(cyclic(1))), ((0,),))
        just(self, lower_series(Table(cyclic(1))), ((0,),))
        just(self, lower_series(Table(KNOWN["dihedral 16"]))[-1], (0,))

    def test_refused(self):
        for call in (derived_series, lower_series):
            refuse_tables(self, call)
            just(self, by_place_and_name(self, call, table=Table(cyclic(2))), ((0, 1), (0,)))


if __name__ == "__main__":
    unittest.main()
