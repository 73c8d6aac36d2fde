import itertools
import random
import unittest

from movegroups.blocks import blocks, closure, is_part, orbits, renamed, stabilizer, united
from movegroups.chains import Moves
from movegroups.errors import NoGroup, NoImages, NoMove, NoPart, NoPoint, NoPoints
from movegroups.rules import Rules
from movegroups.tables import Table

from tests.kit import NUMBERS, ODD, TEXTS, by_place_and_name, just, refused
from tests.lines import TWO
from tests.test_chains import ALL, EVEN, FACTORIAL, NO_MOVES, SMALL, by_rounds, members_by_hand, shuffled, turn_of

NO_GROUPS = [Table(TWO), Rules(("a",), ()), (1, 0), ((1, 0),), Moves, 5, "moves 5:"] + ODD + TEXTS + NUMBERS
FOUR = by_rounds(4, "(0 1 2 3)")
TURNS = by_rounds(4, "(0 1 2 3)", "(0 2)")
FULL = by_rounds(4, "(0 1 2 3)", "(0 1)")


def partings(points):
    """All partings of the points, each a tuple of rising tuples by their least points."""
    if points == 0:
        return [()]
    told = []
    for parts in partings(points - 1):
        told.append(parts + ((points - 1,),))
        for place, part in enumerate(parts):
            told.append(parts[:place] + (part + (points - 1,),) + parts[place + 1:])
    return told


PARTINGS = {points: partings(points) for points in range(1, 7)}


def keeps(parts, move):
    """Whether the move leads each part to a part."""
    return all(tuple(sorted(move[point] for point in part)) in parts for part in parts)


def finer(one, other):
    return all(any(set(part) <= set(greater) for greater in other) for part in one)


def told_moves_by_hand(members):
    """The MOVES that are told of the group of these members: of the strong ones those that the ones ahead don't make."""
    points = len(members[0])
    strong = []
    for point in range(points):
        stay = [move for move in members if move[:point] == tuple(range(point))]
        strong += [min(move for move in stay if move[point] == image) for image in sorted({move[point] for move in stay} - {point})]
    kept = ()
    for move in sorted(strong):
        if move not in members_by_hand(points, kept):
            kept += (move,)
    return kept


def is_told(case, group, points, members):
    """GROUP is a Moves of just these members, with the MOVES that are told."""
    case.assertIs(type(group), Moves)
    just(case, group.points, points)
    just(case, members_by_hand(points, group.moves), sorted(members))
    just(case, group.order(), len(members))
    just(case, group.moves, told_moves_by_hand(sorted(members)))


def conjugate(move, by):
    """BY undone, the move, BY."""
    back = [by.index(point) for point in range(len(by))]
    return tuple(by[move[back[point]]] for point in range(len(by)))


class OrbitsTest(unittest.TestCase):
    """[7]"""

    def test_orbits(self):
        for group, members in SMALL:
            met = {tuple(sorted({move[point] for move in members})) for point in range(group.points)}
            just(self, orbits(group), tuple(sorted(met)))

    def test_known_groups(self):
        just(self, orbits(Moves(1, ())), ((0,),))
        just(self, orbits(by_rounds(6, "(0 4)(2 5)", "(3 4)")), ((0, 3, 4), (1,), (2, 5)))
        just(self, orbits(ALL), (tuple(range(60)),))
        just(self, orbits(Moves(60, ())), tuple((point,) for point in range(60)))
        just(self, by_place_and_name(self, orbits, group=Moves(2, ((1, 0),))), ((0, 1),))

    def test_no_group(self):
        for thing in NO_GROUPS:
            refused(self, NoGroup, orbits, thing)


class BlocksTest(unittest.TestCase):
    """[7]"""

    def test_the_finest(self):
        for group, members in SMALL:
            kept = [parts for parts in PARTINGS[group.points] if all(keeps(parts, move) for move in members)]
            for one, other in itertools.product(range(group.points), repeat=2):
                fits = [parts for parts in kept if any(one in part and other in part for part in parts)]
                told = blocks(group, one, other)
                self.assertIn(told, fits)
                self.assertTrue(all(finer(told, parts) for parts in fits))

    def test_known_groups(self):
        just(self, blocks(FOUR, 0, 2), ((0, 2), (1, 3)))
        just(self, blocks(FOUR, 3, 1), ((0, 2), (1, 3)))
        just(self, blocks(FOUR, 0, 1), ((0, 1, 2, 3),))
        just(self, blocks(FOUR, 2, 2), ((0,), (1,), (2,), (3,)))
        just(self, blocks(by_rounds(6, "(0 1 2)", "(3 4 5)"), 0, 3), ((0, 1, 2, 3, 4, 5),))
        just(self, blocks(by_rounds(6, "(0 1 2)(3 4 5)"), 0, 3), ((0, 3), (1, 4), (2, 5)))
        just(self, blocks(by_rounds(6, "(0 1 2)(3 4 5)"), 4, 0), ((0, 4), (1, 5), (2, 3)))
        just(self, blocks(by_rounds(6, "(1 2 3)"), 0, 5), ((0, 5), (1,), (2,), (3,), (4,)))
        just(self, blocks(Moves(1, ()), 0, 0), ((0,),))
        just(self, blocks(ALL, 7, 3), (tuple(range(60)),))
        turn = Moves(60, (turn_of(60, 0, 59),))
        just(self, blocks(turn, 0, 15), tuple(tuple(range(first, 60, 15)) for first in range(15)))
        just(self, blocks(turn, 7, 41), tuple(tuple(range(first, 60, 2)) for first in range(2)))

    def test_refused(self):
        for thing in [4, -1, 10 ** 39] + ODD + TEXTS:
            refused(self, NoPoint, blocks, FOUR, thing, 0)
            refused(self, NoPoint, blocks, FOUR, 3, thing)
            refused(self, NoPoint, blocks, FOUR, thing, None)
        for thing in NO_GROUPS:
            refused(self, NoGroup, blocks, thing, 0, 0)
            refused(self, NoGroup, blocks, thing, None, -1)
        just(self, by_place_and_name(self, blocks, group=FOUR, one=0, other=2), ((0, 2), (1, 3)))


class StabilizerTest(unittest.TestCase):
    """[7]"""

    def test_of_all_points(self):
        for group, members in SMALL:
            for many in range(group.points + 1):
                for points in itertools.combinations(range(group.points), many):
                    stay = [move for move in members if all(move[point] == point for point in points)]
                    is_told(self, stabilizer(group, points), group.points, stay)

    def test_known_groups(self):
        self.assertEqual(stabilizer(FULL, ()), FULL)
        just(self, stabilizer(FULL, ()).moves, ((0, 1, 3, 2), (0, 2, 1, 3), (1, 0, 2, 3)))
        just(self, stabilizer(FULL, (0, 2)).moves, ((0, 3, 2, 1),))
        just(self, stabilizer(FULL, (0, 1, 2, 3)).moves, ())
        told = stabilizer(ALL, (0, 5, 59))
        just(self, told.order(), FACTORIAL(57))
        just(self, told.orbit(1), tuple(point for point in range(60) if point not in (0, 5, 59)))
        just(self, len(told.moves), 56)
        just(self, stabilizer(EVEN, tuple(range(1, 58))).moves, (tuple([58] + list(range(1, 58)) + [59, 0]),))
        just(self, stabilizer(EVEN, tuple(range(58))).order(), 1)

    def test_no_images(self):
        for thing in [
                [], [0], (0, 0), (1, 0), (0, 2, 1), (4,), (-1,), (0, 4), (True,), (False, 1), (0, True), (0, None), ("0",), "0", 0, None, {}, range(2),
                (0, 1, 2, 3, 4)] + [thing for thing in ODD if thing != ()] + TEXTS + NUMBERS:
            refused(self, NoImages, stabilizer, FULL, thing)
        for thing in NO_GROUPS:
            refused(self, NoGroup, stabilizer, thing, ())
            refused(self, NoGroup, stabilizer, thing, (1, 0))
        self.assertEqual(by_place_and_name(self, stabilizer, group=FULL, points=(3,)), by_rounds(4, "(0 1 2)", "(0 1)"))


class RenamedTest(unittest.TestCase):
    """[7]"""

    def test_by_all_members(self):
        chance = random.Random(7)
        for group, members in SMALL:
            for _ in range(3):
                move = shuffled(chance, group.points)
                is_told(self, renamed(group, move), group.points, [conjugate(member, move) for member in members])

    def test_known_groups(self):
        # Undone, the move leads 1 to 0; the member leads 0 to 1, and the move leads that to 2.
        just(self, renamed(by_rounds(3, "(0 1)"), (1, 2, 0)).moves, ((0, 2, 1),))
        just(self, renamed(by_rounds(3, "(0 1)"), (2, 0, 1)).moves, ((2, 1, 0),))
        self.assertEqual(renamed(ALL, turn_of(60, 3, 40)), ALL)
        self.assertEqual(renamed(Moves(60, (turn_of(60, 0, 5),)), turn_of(60, 0, 59)), Moves(60, (turn_of(60, 1, 6),)))

    def test_refused(self):
        for thing in NO_MOVES + [(0, 1, 2, 2), [0, 1, 2, 3]]:
            refused(self, NoMove, renamed, FULL, thing)
        for move in [(0,), (1, 2, 0), (1, 0, 2, 3, 4), tuple(range(60))]:
            refused(self, NoPoints, renamed, FULL, move)
        for thing in NO_GROUPS:
            refused(self, NoGroup, renamed, thing, (0,))
            refused(self, NoGroup, renamed, thing, (0, 0))
        self.assertEqual(by_place_and_name(self, renamed, group=by_rounds(3, "(0 1)"), move=(1, 2, 0)), by_rounds(3, "(1 2)"))


class UnitedTest(unittest.TestCase):
    """[7]"""

    def test_by_all_members(self):
        for (one, _), (other, _) in itertools.product(SMALL, SMALL):
            if one.points == other.points:
                is_told(self, united(one, other), one.points, members_by_hand(one.points, one.moves + other.moves))

    def test_more_than_a_hundred_moves(self):
        one = Moves(8, tuple(turn_of(8, 0, last % 4) for last in range(100)))
        other = Moves(8, tuple(turn_of(8, 4, 4 + last % 3) for last in range(100)))
        told = united(one, other)
        is_told(self, told, 8, members_by_hand(8, (turn_of(8, 0, 3), turn_of(8, 0, 1), turn_of(8, 4, 5), turn_of(8, 4, 6))))
        just(self, told.order(), 24 * 6)
        just(self, len(told.moves), 5)

    def test_great_groups(self):
        told = united(EVEN, Moves(60, (turn_of(60, 0, 1),)))
        self.assertEqual(told, ALL)
        just(self, told.moves, tuple(turn_of(60, point, point + 1) for point in range(58, -1, -1)))
        just(self, united(Moves(60, ()), Moves(60, ())).moves, ())

    def test_refused(self):
        for one, other in [(FULL, Moves(5, ())), (Moves(60, ()), Moves(1, ())), (FULL, by_rounds(3, "(0 1)"))]:
            refused(self, NoPoints, united, one, other)
            refused(self, NoPoints, united, other, one)
        for thing in NO_GROUPS:
            for call in (united, is_part, closure):
                refused(self, NoGroup, call, thing, FULL)
                refused(self, NoGroup, call, FULL, thing)
                refused(self, NoGroup, call, Moves(3, ()), thing)
                refused(self, NoGroup, call, thing, thing)
        self.assertEqual(by_place_and_name(self, united, one=by_rounds(3, "(0 1)"), other=by_rounds(3, "(1 2)")), by_rounds(3, "(0 1 2)", "(0 1)"))


class IsPartTest(unittest.TestCase):
    """[7]"""

    def test_by_all_members(self):
        for (one, some), (other, others) in itertools.product(SMALL, SMALL):
            if one.points == other.points:
                just(self, is_part(one, other), set(some) <= set(others))

    def test_known_groups(self):
        just(self, (is_part(EVEN, ALL), is_part(ALL, EVEN), is_part(ALL, ALL)), (True, False, True))
        just(self, (is_part(FOUR, TURNS), is_part(TURNS, FOUR)), (True, False))
        just(self, by_place_and_name(self, is_part, one=Moves(4, ()), other=FOUR), True)

    def test_refused(self):
        for other in (Moves(5, ()), Moves(3, ()), EVEN):
            refused(self, NoPoints, is_part, FULL, other)
            refused(self, NoPoints, is_part, other, FULL)


class ClosureTest(unittest.TestCase):
    """[7]"""

    def test_by_all_members(self):
        met = set()
        for (one, some), (other, others) in itertools.product(SMALL, SMALL):
            if one.points != other.points or not set(others) <= set(some):
                self.assertIs(refused(self, NoPart, closure, one, other).what, other)
            else:
                # By members of OTHER by which all of it is made: their conjugates make those of all.
                led = tuple({conjugate(move, by) for move in other.moves for by in some})
                told = members_by_hand(one.points, led)
                is_told(self, closure(one, other), one.points, told)
                met.add((len(others), len(told), len(some)))
        self.assertTrue([row for row in met if row[0] < row[1] < row[2]])

    def test_known_groups(self):
        just(self, closure(TURNS, by_rounds(4, "(0 2)")).order(), 4)
        just(self, closure(TURNS, by_rounds(4, "(0 2)")).moves, ((0, 3, 2, 1), (2, 1, 0, 3)))
        self.assertEqual(closure(FULL, by_rounds(4, "(0 1)(2 3)")), by_rounds(4, "(0 1)(2 3)", "(0 2)(1 3)"))
        self.assertEqual(closure(FULL, by_rounds(4, "(0 1 2)")), by_rounds(4, "(0 1 2)", "(1 2 3)"))
        self.assertEqual(closure(FULL, by_rounds(4, "(0 1)")), FULL)
        just(self, closure(FULL, Moves(4, ())).moves, ())
        self.assertEqual(closure(ALL, Moves(60, (turn_of(60, 5, 7),))), EVEN)
        self.assertEqual(closure(ALL, EVEN), EVEN)

    def test_no_part(self):
        for one, other in [(FOUR, TURNS), (FULL, Moves(5, ())), (FULL, ALL), (EVEN, ALL), (Moves(4, ()), FOUR), (FOUR, by_rounds(3, "(0 1)"))]:
            self.assertIs(refused(self, NoPart, closure, one, other).what, other)
        self.assertEqual(by_place_and_name(self, closure, one=FOUR, other=by_rounds(4, "(0 2)(1 3)")), by_rounds(4, "(0 2)(1 3)"))


class StayTest(unittest.TestCase):
    """[2]: what is handed in stays, and the same is told again."""

    def test_told_again(self):
        one, other = Moves(4, FULL.moves), Moves(4, TURNS.moves)
        told = [united(one, other).moves, closure(one, other).moves, stabilizer(one, (1,)).moves, renamed(other, (1, 0, 2, 3)).moves, orbits(one)]
        again = [united(one, other).moves, closure(one, other).moves, stabilizer(one, (1,)).moves, renamed(other, (1, 0, 2, 3)).moves, orbits(one)]
        just(self, told, again)
        just(self, (one.moves, one.order(), one.strong()), (FULL.moves, 24, FULL.strong()))
        just(self, (other.moves, other.order()), (TURNS.moves, 8))


if __name__ == "__main__":
    unittest.main()
