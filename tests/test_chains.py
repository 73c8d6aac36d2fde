import itertools
import math
import random
import unittest

from movegroups.chains import Moves
from movegroups.errors import NoImages, NoMember, NoMove, NoMoves, NoNumber, NoPoint, NoPoints
from movegroups.moves import is_move, read_move, then
from movegroups.recipes import made_by, slimmed

from tests.kit import NUMBERS, ODD, TEXTS, Loud, by_place_and_name, just, refused

NO_MOVES = [thing for thing in ODD + TEXTS + NUMBERS if not is_move(thing)] + [(1, 2, 0, 0), [1, 2, 3, 4, 0], (False, 1, 2), (0, True, 2)]
FACTORIAL = math.factorial


def by_rounds(points, *texts):
    return Moves(points, tuple(read_move(text, points) for text in texts))


def members_by_hand(points, moves):
    """All that rows of the moves make, rising."""
    met, further = {tuple(range(points))}, [tuple(range(points))]
    while further:
        one = further.pop()
        for move in moves:
            made = tuple(move[image] for image in one)
            if made not in met:
                met.add(made)
                further.append(made)
    return sorted(met)


def shuffled(chance, points):
    return tuple(chance.sample(range(points), points))


def turn_of(points, first, last):
    """The move that leads FIRST on to the next one, and so on, and LAST to FIRST."""
    return tuple(first if one == last else one + 1 if first <= one < last else one for one in range(points))


def some_groups():
    """Small groups, each with all its members."""
    chance = random.Random(6)
    told = [(1, ()), (1, ((0,),)), (4, ()), (5, (tuple(range(5)),) * 3)]
    for points in range(1, 7):
        told += [(points, tuple(shuffled(chance, points) for _ in range(many))) for many in (1, 1, 2, 2, 3)]
    told += [(6, ((1, 0, 2, 3, 4, 5), (0, 1, 3, 2, 4, 5), (0, 1, 2, 3, 5, 4))), (6, ((2, 3, 4, 5, 0, 1), (1, 0, 3, 2, 5, 4)))]
    return [(Moves(points, moves), members_by_hand(points, moves)) for points, moves in told]


SMALL = some_groups()
# All moves of sixty points, and the even ones.
ALL = Moves(60, (turn_of(60, 0, 59), turn_of(60, 0, 1)))
EVEN = Moves(60, (turn_of(60, 0, 2), turn_of(60, 1, 59)))


class MakingTest(unittest.TestCase):
    """[6]"""

    def test_values(self):
        moves = ((1, 2, 0), (0, 1, 2), (1, 2, 0))
        group = Moves(3, moves)
        just(self, (group.points, group.moves), (3, moves))
        self.assertIs(group.moves, moves)
        just(self, (Moves(1, ()).points, Moves(60, ()).points, Moves(60, ()).moves), (1, 60, ()))
        self.assertIs(bool(Moves(1, ())), True)

    def test_no_number(self):
        for thing in [0, 61, -1, 10 ** 39] + ODD + TEXTS:
            refused(self, NoNumber, Moves, thing, ())
            refused(self, NoNumber, Moves, thing, None)

    def test_how_many_moves(self):
        turn = turn_of(60, 0, 59)
        just(self, Moves(60, (turn,) * 100).order(), 60)
        just(self, Moves(60, tuple(turn_of(60, 0, last % 60) for last in range(100))).order(), FACTORIAL(60))
        for many in (101, 150):
            self.assertIsNone(refused(self, NoMoves, Moves, 60, (turn,) * many).place)

    def test_no_moves(self):
        for thing in [[], [(0, 1)], {}, "", None, range(2)] + [thing for thing in ODD if not isinstance(thing, tuple)]:
            self.assertIsNone(refused(self, NoMoves, Moves, 2, thing).place)
        for thing in NO_MOVES + [(0,), (0, 1), (0, 1, 2, 3)]:
            for place in range(3):
                moves = ((1, 2, 0),) * place + (thing, (1, 0, 2), None)
                just(self, refused(self, NoMoves, Moves, 3, moves).place, place)
        just(self, refused(self, NoMoves, Moves, 3, (1, 2, 0)).place, 0)

    def test_by_place_and_by_name(self):
        self.assertEqual(by_place_and_name(self, Moves, points=2, moves=((1, 0),)).order(), 2)

    def test_repr(self):
        just(self, repr(Moves(1, ())), "Moves(1 points, 1 members)")
        just(self, repr(by_rounds(5, "(0 1)", "(0 1 2 3 4)")), "Moves(5 points, 120 members)")
        just(self, repr(ALL), f"Moves(60 points, {FACTORIAL(60)} members)")

    def test_alike(self):
        one = by_rounds(4, "(0 1 2 3)", "(0 1)")
        for other in [by_rounds(4, "(0 1)", "(1 2)", "(2 3)"), by_rounds(4, "(0 1 2 3)", "(0 1)"), by_rounds(4, "(2 3)", "(0 1 2)")]:
            self.assertIs(one == other, True)
            self.assertIs(one != other, False)
        others = [by_rounds(5, "(0 1 2 3)", "(0 1)"), by_rounds(4, "(0 1 2)", "(0 1)"), by_rounds(4, "(0 1 2)", "(1 2 3)")]
        for other in others + [one.moves, 4, "Moves(4 points, 24 members)", None, Loud()] + ODD + TEXTS:
            self.assertIs(one == other, False)
            self.assertIs(one != other, True)
        self.assertIs(by_rounds(4, "(0 1)") == by_rounds(4, "(2 3)"), False)
        self.assertIs(Moves(3, ()) == Moves(3, ((0, 1, 2),)), True)
        self.assertIs(Moves(3, ()) == Moves(4, ()), False)
        self.assertIs(ALL == Moves(60, tuple(turn_of(60, one, one + 1) for one in range(59))), True)
        self.assertIs(ALL == EVEN, False)
        for (group, members), (other, others) in itertools.product(SMALL, SMALL):
            self.assertIs(group == other, group.points == other.points and members == others)


class MembersTest(unittest.TestCase):
    """[6], and [3]: an order by moves is that of all that rows of them make."""

    def test_order(self):
        for group, members in SMALL:
            just(self, group.order(), len(members))

    def test_order_of_some_more_groups(self):
        chance = random.Random(60)
        for points in (7, 8):
            for _ in range(4):
                moves = tuple(shuffled(chance, points) for _ in range(chance.randint(1, 3)))
                just(self, Moves(points, moves).order(), len(members_by_hand(points, moves)))

    def test_order_of_great_groups(self):
        just(self, ALL.order(), FACTORIAL(60))
        just(self, EVEN.order(), FACTORIAL(60) // 2)
        chance = random.Random(61)
        told = Moves(60, (shuffled(chance, 60), shuffled(chance, 60), turn_of(60, 7, 8))).order()
        just(self, told, FACTORIAL(60))
        just(self, Moves(60, tuple(turn_of(60, one, one + 1) for one in range(0, 60, 2))).order(), 2 ** 30)
        halves = (turn_of(60, 0, 29), turn_of(60, 0, 1), tuple((one + 30) % 60 for one in range(60)))
        just(self, Moves(60, halves).order(), 2 * FACTORIAL(30) ** 2)
        fives = (turn_of(60, 0, 1), turn_of(60, 0, 4), tuple((one + 5) % 60 for one in range(60)))
        just(self, Moves(60, fives).order(), 120 ** 12 * 12)
        just(self, Moves(60, (turn_of(60, 0, 18), turn_of(60, 19, 41), turn_of(60, 42, 58))).order(), 19 * 23 * 17)
        # Of eleven points, each four of which lead anywhere else in just one way.
        eleven = by_rounds(11, "(0 1 2 3 4 5 6 7 8 9 10)", "(2 6 10 7)(3 9 4 5)")
        just(self, eleven.order(), 7920)
        # The lines of the field of 59 and of what lies beyond.
        back = tuple([59] + [-pow(one, -1, 59) % 59 for one in range(1, 59)] + [0])
        just(self, Moves(60, (turn_of(60, 0, 58), back)).order(), 59 * 60 * 58 // 2)

    def test_has(self):
        for group, members in SMALL:
            for move in itertools.permutations(range(group.points)):
                just(self, group.has(move), move in members)
        just(self, EVEN.has(turn_of(60, 0, 1)), False)
        just(self, EVEN.has(turn_of(60, 3, 59)), True)
        just(self, ALL.has(turn_of(60, 0, 1)), True)

    def test_stops(self):
        for group, members in SMALL:
            for move in itertools.permutations(range(group.points)):
                fits = [any(one[:point + 1] == move[:point + 1] for one in members) for point in range(group.points)]
                just(self, group.stops(move), None if move in members else fits.index(False))
        just(self, EVEN.stops(turn_of(60, 0, 1)), 58)
        just(self, EVEN.stops(turn_of(60, 0, 59)), 58)
        just(self, EVEN.stops(turn_of(60, 1, 59)), None)
        just(self, by_rounds(4, "(2 3)").stops((1, 0, 3, 2)), 0)

    def test_rank_and_member(self):
        for group, members in SMALL:
            just(self, [group.member(rank) for rank in range(len(members))], members)
            just(self, [group.rank(move) for move in members], list(range(len(members))))

    def test_rank_and_member_of_great_groups(self):
        for group in (ALL, EVEN):
            just(self, group.member(0), tuple(range(60)))
            just(self, group.rank(tuple(range(60))), 0)
            last = group.order() - 1
            chance = random.Random(62)
            for rank in [1, 2, last // 2, last - 1, last] + [chance.randrange(last) for _ in range(10)]:
                just(self, group.rank(group.member(rank)), rank)
            self.assertLess(group.member(last - 1), group.member(last))
        just(self, ALL.member(FACTORIAL(60) - 1), tuple(range(60))[::-1])
        just(self, ALL.member(1), turn_of(60, 58, 59))
        just(self, EVEN.member(1), turn_of(60, 57, 59))
        just(self, ALL.rank(turn_of(60, 0, 1)), FACTORIAL(59))

    def test_recipe(self):
        for group, members in SMALL:
            for move in members[::max(1, len(members) // 40)]:
                recipe = group.recipe(move)
                just(self, made_by(recipe, group.moves, group.points)[-1], move)
                just(self, slimmed(recipe), recipe)
        just(self, Moves(3, ()).recipe((0, 1, 2)), (("rest",),))
        just(self, ALL.recipe(tuple(range(60)))[-1], ("rest",))

    def test_recipe_of_great_groups(self):
        for group in (ALL, EVEN):
            for rank in (0, 1, 10 ** 39, group.order() // 3, group.order() - 1):
                move = group.member(rank)
                just(self, made_by(group.recipe(move), group.moves, 60)[-1], move)
        many = Moves(60, tuple(turn_of(60, 0, last % 60) for last in range(100)))
        move = then(turn_of(60, 17, 42), turn_of(60, 3, 50))
        just(self, made_by(many.recipe(move), many.moves, 60)[-1], move)

    def test_refused_in_this_order(self):
        group = by_rounds(4, "(0 1 2)")
        for call in (group.has, group.stops, group.rank, group.recipe):
            for thing in NO_MOVES + [None, (0, 1, 2, 2), [0, 1, 2, 3], (0, 1, 2, 4)]:
                refused(self, NoMove, call, thing)
            for move in [(0,), (1, 2, 0), (1, 0, 2, 3, 4), tuple(range(60))]:
                refused(self, NoPoints, call, move)
            by_place_and_name(self, call, move=(1, 2, 0, 3))
        for call in (group.rank, group.recipe):
            for move in [(1, 0, 2, 3), (0, 1, 3, 2), (1, 2, 3, 0)]:
                refused(self, NoMember, call, move)
        refused(self, NoMember, EVEN.rank, turn_of(60, 58, 59))
        refused(self, NoMember, EVEN.recipe, turn_of(60, 58, 59))

    def test_member_refused(self):
        group = by_rounds(4, "(0 1 2)")
        for thing in [3, 4, -1, 10 ** 39, -10 ** 39] + ODD + TEXTS:
            refused(self, NoNumber, group.member, thing)
        refused(self, NoNumber, ALL.member, FACTORIAL(60))
        refused(self, NoNumber, Moves(1, ()).member, 1)
        just(self, by_place_and_name(self, group.member, rank=2), (2, 0, 1, 3))


class OrbitTest(unittest.TestCase):
    """[6]"""

    def test_orbit(self):
        for group, members in SMALL:
            for fixed in range(group.points + 1):
                stay = [move for move in members if move[:fixed] == tuple(range(fixed))]
                for point in range(group.points):
                    told = group.orbit(point, fixed)
                    just(self, told, tuple(sorted({move[point] for move in stay})))
                    just(self, group.orbit(point, fixed=fixed), told)
                    if fixed == 0:
                        just(self, group.orbit(point), told)

    def test_orbit_of_great_groups(self):
        just(self, ALL.orbit(59), tuple(range(60)))
        just(self, ALL.orbit(59, 0), tuple(range(60)))
        just(self, ALL.orbit(59, 58), (58, 59))
        just(self, EVEN.orbit(59, 58), (59,))
        just(self, EVEN.orbit(59, 57), (57, 58, 59))
        just(self, ALL.orbit(7, 30), (7,))
        just(self, ALL.orbit(0, 60), (0,))
        just(self, ALL.orbit(59, fixed=60), (59,))

    def test_refused(self):
        group = by_rounds(4, "(0 1 2)")
        for thing in [4, -1, 10 ** 39] + ODD + TEXTS:
            refused(self, NoPoint, group.orbit, thing)
            refused(self, NoPoint, group.orbit, thing, None)
            refused(self, NoPoint, group.orbit, thing, fixed=5)
        for thing in [5, -1, 10 ** 39] + ODD + TEXTS:
            refused(self, NoNumber, group.orbit, 0, thing)
            refused(self, NoNumber, group.orbit, 3, fixed=thing)
        just(self, by_place_and_name(self, group.orbit, point=0, fixed=1), (0,))
        just(self, by_place_and_name(self, group.orbit, point=0), (0, 1, 2))


class LeastTest(unittest.TestCase):
    """[6]"""

    def test_least(self):
        for group, members in SMALL:
            for many in range(group.points + 1):
                for images in itertools.permutations(range(group.points), many):
                    fits = [move for move in members if move[:many] == images]
                    just(self, group.least(images), min(fits) if fits else None)

    def test_least_of_great_groups(self):
        rest = tuple(range(60))
        for group in (ALL, EVEN, Moves(60, ())):
            just(self, group.least(()), rest)
            just(self, group.least(rest), rest)
        just(self, ALL.least((59,)), (59,) + rest[:59])
        just(self, ALL.least((3, 1)), (3, 1, 0, 2) + rest[4:])
        just(self, EVEN.least((1, 0)), (1, 0) + rest[2:58] + (59, 58))
        just(self, EVEN.least((1, 0) + rest[2:]), None)
        just(self, Moves(60, ()).least((1,)), None)
        just(self, ALL.least(rest[::-1]), rest[::-1])

    def test_no_images(self):
        group = by_rounds(4, "(0 1 2)", "(2 3)")
        for thing in [
            [], [0], (0, 0), (1, 2, 1), (4,), (-1,), (0, 4), (True,), (False,), (0, True), (0, 1, 2, 3, 0), (0, 1, 2, 3, 4), ("0",), ((0,),),
            "0", "", {}, {0}, 0, 1, None, (0, None), (10 ** 39,), (0, 1, 2, 3, 3), range(2), (0, 1, 2, 3) * 20,
        ] + ODD + TEXTS + NUMBERS:
            refused(self, NoImages, group.least, thing)
        refused(self, NoImages, Moves(1, ()).least, (1,))
        refused(self, NoImages, Moves(1, ()).least, (0, 0))
        just(self, by_place_and_name(self, group.least, images=(2,)), (2, 0, 1, 3))

    def test_strong(self):
        for group, members in SMALL:
            told = []
            for point in range(group.points):
                stay = [move for move in members if move[:point] == tuple(range(point))]
                told += [min(move for move in stay if move[point] == image) for image in sorted({move[point] for move in stay} - {point})]
            just(self, group.strong(), tuple(sorted(told)))

    def test_strong_of_known_groups(self):
        just(self, Moves(5, ()).strong(), ())
        just(self, by_rounds(3, "(0 1 2)", "(0 1)").strong(), ((0, 2, 1), (1, 0, 2), (2, 0, 1)))
        told = ALL.strong()
        just(self, len(told), 60 * 59 // 2)
        self.assertEqual(list(told), sorted(told))
        just(self, (told[0], told[-1]), (turn_of(60, 58, 59), (59,) + tuple(range(59))))
        just(self, len(EVEN.strong()), 60 * 59 // 2 - 1)
        self.assertTrue(all(ALL.has(move) and not ALL.stops(move) for move in told[::50]))

    def test_strong_makes_all(self):
        for group, _ in SMALL:
            self.assertEqual(Moves(group.points, group.strong()), group)


class StayTest(unittest.TestCase):
    """[2]: what is handed in stays, and the same is told again."""

    def test_told_again(self):
        for group, members in SMALL:
            moves = group.moves
            told = [group.order(), group.strong(), group.recipe(members[-1]), group.least(()), group.orbit(0), repr(group)]
            again = [group.order(), group.strong(), group.recipe(members[-1]), group.least(()), group.orbit(0), repr(group)]
            just(self, told, again)
            self.assertIs(group.moves, moves)
            just(self, Moves(group.points, group.moves).recipe(members[-1]), told[2])


if __name__ == "__main__":
    unittest.main()
