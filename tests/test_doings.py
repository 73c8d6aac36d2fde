import unittest

from movegroups.doings import core, doing_on, holders, orbits_of, stayed
from movegroups.errors import NoDoing, NoPoint
from movegroups.rules import broken
from movegroups.subs import leading, subs
from movegroups.tables import Table
from movegroups.turning import rules_of

from tests.kit import NUMBERS, ODD, TEXTS, by_place_and_name, just, refused
from tests.lines import GREAT_TABLES, TABLES, TWO, back_of, cyclic, lines_of, made, named
from tests.test_chains import members_by_hand
from tests.test_subs import THREE
from tests.wrong import refuse_subs, refuse_tables

SMALL = [table for table in TABLES if len(table) <= 12]
ROUND = (1, 2, 3, 0)
NO_DOINGS = [
    (), [], [ROUND], ROUND, (list(ROUND),), (ROUND, (1, 0)), ((1, 0), ROUND), (ROUND, None), (None, ROUND), ((0, 0),), ((1,),), ((),), ((True, False),),
    ((0, True),), (ROUND, (1, 2, 3, 3)), ("01",), ((-1, 0),), ((1, 2, 3, 4),), (tuple(range(61)),), {ROUND}, {0: ROUND}, Table(TWO), 4, "()",
]
NO_DOINGS += [thing for thing in ODD + TEXTS + NUMBERS]


def cosets_by_hand(lines, sub):
    """All parts of what the SUB's members make with one behind them, by their least members."""
    return sorted({tuple(sorted(lines[one][by] for one in sub)) for by in range(len(lines))})


class DoingOnTest(unittest.TestCase):
    """[26]"""

    def test_by_hand(self):
        for table in SMALL:
            for sub in subs(table):
                parts = cosets_by_hand(table.lines, sub)
                told = []
                for by in range(len(table)):
                    images = [tuple(sorted(table.lines[one][by] for one in part)) for part in parts]
                    told.append(tuple(parts.index(image) for image in images))
                just(self, doing_on(table, sub), tuple(told))

    def test_it_is_a_doing(self):
        # What A and B make does what A, then B do.
        for table in SMALL + GREAT_TABLES[:9]:
            for sub in [(0,), tuple(range(len(table)))]:
                moves = doing_on(table, sub)
                for one in range(0, len(table), 3):
                    for other in range(len(table)):
                        just(self, moves[table.lines[one][other]], tuple(moves[other][image] for image in moves[one]))
        for table in SMALL:
            letters = leading(table) or (0,)
            for sub in subs(table):
                just(self, broken(rules_of(table), tuple(doing_on(table, sub)[member] for member in letters)), None)

    def test_known_groups(self):
        just(self, doing_on(Table(cyclic(1)), (0,)), ((0,),))
        just(self, doing_on(Table(cyclic(3)), (0,)), ((0, 1, 2), (1, 2, 0), (2, 0, 1)))
        just(self, doing_on(Table(cyclic(4)), (0, 2)), ((0, 1), (1, 0), (0, 1), (1, 0)))
        just(self, doing_on(Table(cyclic(48)), tuple(range(48))), ((0,),) * 48)
        just(self, len(doing_on(Table(cyclic(48)), (0,))[5]), 48)
        # All moves of three points: (0, 1) leave the first one, so what is led are the points themselves.
        moves = ((0, 1, 2), (0, 2, 1), (1, 0, 2), (1, 2, 0), (2, 0, 1), (2, 1, 0))
        just(self, doing_on(Table(lines_of(moves)), (0, 1)), moves)

    def test_refused(self):
        for call in (doing_on, core):
            refuse_tables(self, call, (0,))
            refuse_subs(self, call)
        just(self, by_place_and_name(self, doing_on, table=Table(TWO), sub=(0,)), ((0, 1), (1, 0)))


class CoreTest(unittest.TestCase):
    """[26]"""

    def test_by_hand(self):
        # It is what all conjugates of the SUB have.
        for table in SMALL + [named("dihedral 24"), named("twenty-four")]:
            for sub in subs(table):
                common = set(sub)
                for by in range(len(table)):
                    common &= {made(table.lines, back_of(table.lines, by), one, by) for one in sub}
                just(self, core(table, sub), tuple(sorted(common)))

    def test_known_groups(self):
        just(self, core(THREE, (0, 1)), (0,))
        just(self, core(THREE, (0, 3, 4)), (0, 3, 4))
        just(self, core(THREE, (0, 1, 2, 3, 4, 5)), (0, 1, 2, 3, 4, 5))
        just(self, by_place_and_name(self, core, table=Table(cyclic(4)), sub=(0, 2)), (0, 2))


class MovesTest(unittest.TestCase):
    """[26]"""

    def test_stayed(self):
        just(self, stayed(((0,),)), (1,))
        just(self, stayed((ROUND, (0, 1, 2, 3), (0, 3, 2, 1), (1, 0, 2, 3), ROUND)), (0, 4, 2, 2, 0))
        just(self, stayed((tuple(range(60)),) * 150), (60,) * 150)
        just(self, by_place_and_name(self, stayed, doing=((1, 0, 2),)), (1,))

    def test_stayed_is_the_order_as_often_as_there_are_orbits(self):
        for table in SMALL:
            for sub in subs(table):
                moves = doing_on(table, sub)
                just(self, sum(stayed(moves)), len(table) * len(orbits_of(moves)))
        for points, rounds in [(4, (ROUND,)), (5, ((1, 0, 2, 4, 3),)), (5, ((1, 2, 0, 3, 4), (0, 1, 2, 4, 3))), (3, ())]:
            members = tuple(members_by_hand(points, rounds))
            just(self, sum(stayed(members)), len(members) * len(orbits_of(members)))

    def test_orbits_of(self):
        just(self, orbits_of(((0,),)), ((0,),))
        just(self, orbits_of((ROUND,)), ((0, 1, 2, 3),))
        just(self, orbits_of(((0, 1, 2, 3),) * 2), ((0,), (1,), (2,), (3,)))
        just(self, orbits_of(((3, 1, 2, 0, 4), (0, 1, 4, 3, 2))), ((0, 3), (1,), (2, 4)))
        # One move leads on where the other one ends.
        just(self, orbits_of(((1, 0, 2, 3, 4, 5), (0, 5, 2, 3, 4, 1), (0, 1, 3, 2, 4, 5))), ((0, 1, 5), (2, 3), (4,)))
        just(self, by_place_and_name(self, orbits_of, doing=((1, 0, 2),)), ((0, 1), (2,)))

    def test_holders(self):
        moves = (ROUND, (0, 1, 2, 3), (0, 3, 2, 1), (1, 0, 2, 3), ROUND)
        just(self, [holders(moves, point) for point in range(4)], [(1, 2), (1,), (1, 2, 3), (1, 3)])
        just(self, holders((ROUND,), 0), ())
        for table in SMALL:
            for sub in subs(table):
                # Of the cosets, SUB itself is left by its members.
                just(self, holders(doing_on(table, sub), 0), sub)
        just(self, by_place_and_name(self, holders, doing=((1, 0, 2),), point=2), (0,))

    def test_no_doing(self):
        for thing in NO_DOINGS:
            refused(self, NoDoing, stayed, thing)
            refused(self, NoDoing, orbits_of, thing)
            refused(self, NoDoing, holders, thing, 0)
            refused(self, NoDoing, holders, thing, None)

    def test_no_point(self):
        for thing in [4, -1, 10 ** 39] + ODD + TEXTS:
            refused(self, NoPoint, holders, (ROUND,), thing)
        refused(self, NoPoint, holders, ((0,),), 1)

    def test_told_again(self):
        moves = doing_on(THREE, (0, 1))
        told = [stayed(moves), orbits_of(moves), holders(moves, 1), core(THREE, (0, 1))]
        just(self, [stayed(moves), orbits_of(moves), holders(moves, 1), core(THREE, (0, 1))], told)


if __name__ == "__main__":
    unittest.main()
