import itertools
import random
import unittest

from movegroups.errors import NoMove, NoNumber, NoPoints, NoText
from movegroups.moves import is_move, raised, read_move, rest, rounds, show_move, sign, then, turns, undo

from tests.kit import NUMBERS, ODD, TEXTS, by_place_and_name, just, nested, refused

SIXTY = tuple(range(1, 60)) + (0,)
FORTY_FIGURES = 10 ** 39 + 7


def some_moves():
    chance = random.Random(4)
    for points in (1, 2, 3, 7, 20, 59, 60):
        for _ in range(6):
            move = list(range(points))
            chance.shuffle(move)
            yield tuple(move)


class IsMoveTest(unittest.TestCase):
    def test_moves(self):
        for move in [(0,), (1, 0), (2, 0, 1), SIXTY, tuple(range(60))]:
            self.assertIs(is_move(move), True)

    def test_all_tuples_of_three(self):
        for thing in itertools.product(range(-1, 4), repeat=3):
            self.assertIs(is_move(thing), sorted(thing) == [0, 1, 2])

    def test_no_moves(self):
        wrong = [
            (), tuple(range(61)), tuple(range(1, 61)) + (0,), (1,), (-1,), (0, 2), (0, -1), (0, 0), (1, 1), (1, 2, 0, 3, 3),
            (False,), (0, True), (True, False), (True, 0), (1, False), ("0",), (0, "1"), (0, None), (0, (1,)), (0, [1]),
            [0], [1, 0], "0", "01", b"\x00", {0: 0}, {0}, None, 0, 1, (10 ** 40, 0), (-10 ** 40, 0), rest, range(3),
        ]
        for thing in wrong + ODD + TEXTS + NUMBERS + [nested(deep) for deep in range(2, 11)]:
            self.assertIs(is_move(thing), False, repr(thing)[:80])

    def test_nothing_is_changed(self):
        thing = [[1, 0], {0: [1]}]
        self.assertIs(is_move(thing), False)
        self.assertEqual(thing, [[1, 0], {0: [1]}])


class MakingTest(unittest.TestCase):
    def test_rest(self):
        just(self, rest(1), (0,))
        just(self, rest(3), (0, 1, 2))
        just(self, rest(60), tuple(range(60)))

    def test_rest_of_no_number(self):
        for points in [0, -1, 61, 10 ** 39, "3", (3,)] + ODD + TEXTS:
            refused(self, NoNumber, rest, points)

    def test_then(self):
        just(self, then((1, 2, 0), (1, 0, 2)), (0, 2, 1))
        just(self, then((1, 0, 2), (1, 2, 0)), (2, 1, 0))
        just(self, then((0,), (0,)), (0,))

    def test_then_of_all_moves_of_four(self):
        for one in itertools.permutations(range(4)):
            for other in itertools.permutations(range(4)):
                made = then(one, other)
                self.assertEqual([made[point] for point in range(4)], [other[one[point]] for point in range(4)])

    def test_undo(self):
        just(self, undo((2, 0, 1, 3)), (1, 2, 0, 3))
        for move in some_moves():
            self.assertEqual(then(move, undo(move)), rest(len(move)))
            self.assertEqual(then(undo(move), move), rest(len(move)))

    def test_raised(self):
        for move in some_moves():
            made = rest(len(move))
            for times in range(9):
                just(self, raised(move, times), made)
                just(self, raised(move, -times), undo(made))
                made = then(made, move)

    def test_raised_by_great_numbers(self):
        for move in some_moves():
            for times in (FORTY_FIGURES, -FORTY_FIGURES, 10 ** 40 - 1, 1 - 10 ** 40):
                just(self, raised(move, times), raised(move, times % turns(move)))

    def test_turns(self):
        for move, many in [((0,), 1), ((0, 1, 2), 1), ((1, 0), 2), ((1, 2, 0, 4, 3), 6), (SIXTY, 60)]:
            just(self, turns(move), many)
        for move in itertools.permutations(range(5)):
            made, many = move, 1
            while made != (0, 1, 2, 3, 4):
                made, many = then(made, move), many + 1
            self.assertEqual(turns(move), many)

    def test_turns_can_be_many(self):
        sizes, move = [3, 4, 5, 7, 11, 13, 17], []
        for size in sizes:
            move += [len(move) + (place + 1) % size for place in range(size)]
        just(self, turns(tuple(move)), 3 * 4 * 5 * 7 * 11 * 13 * 17)

    def test_rounds(self):
        just(self, rounds((3, 0, 4, 1, 2)), ((0, 3, 1), (2, 4)))
        just(self, rounds((0, 2, 1)), ((1, 2),))
        just(self, rounds((0, 1, 2)), ())
        just(self, rounds((0,)), ())
        just(self, rounds(SIXTY), (tuple(range(60)),))

    def test_sign(self):
        just(self, sign((0,)), 1)
        just(self, sign(tuple(range(60))), 1)
        just(self, sign((1, 0)), -1)
        just(self, sign((1, 0, 3, 2)), 1)
        just(self, sign(SIXTY), -1)
        just(self, sign(tuple(range(1, 59)) + (0,)), 1)
        for move in itertools.permutations(range(5)):
            swaps = sum(one > other for one, other in itertools.combinations(move, 2))
            just(self, sign(move), -1 if swaps % 2 else 1)

    def test_no_move_is_refused(self):
        for thing in ODD + TEXTS + NUMBERS + [(), (1,), (0, 0), tuple(range(61)), [1, 0]]:
            for call in (undo, turns, rounds, sign, show_move):
                refused(self, NoMove, call, thing)
            refused(self, NoMove, then, thing, (0, 1))
            refused(self, NoMove, then, (0, 1), thing)
            refused(self, NoMove, raised, thing, 2)

    def test_unlike_many_points(self):
        refused(self, NoPoints, then, (0,), (0, 1))
        refused(self, NoPoints, then, SIXTY, (0,))

    def test_no_number_of_times(self):
        for thing in ODD + TEXTS:
            refused(self, NoNumber, raised, (1, 0), thing)

    def test_first_from_the_left_is_refused(self):
        refused(self, NoMove, raised, (1, 1), "2")
        refused(self, NoMove, then, (0, 1), (0, 0, 0))
        refused(self, NoMove, then, [0], [0])


class TextTest(unittest.TestCase):
    def test_show(self):
        just(self, show_move((3, 0, 4, 1, 2)), "(0 3 1)(2 4)")
        just(self, show_move((0, 1, 2)), "()")
        just(self, show_move((0,)), "()")
        just(self, show_move((0, 2, 1)), "(1 2)")
        self.assertTrue(show_move(SIXTY).startswith("(0 1 2 3 4 5 6 7 8 9 10 "))

    def test_there_and_back(self):
        moves = list(some_moves()) + [SIXTY] + list(itertools.permutations(range(4)))
        for move in moves:
            just(self, read_move(show_move(move), len(move)), move)
        just(self, read_move("()", 60), tuple(range(60)))

    def test_texts_that_are_no_moves(self):
        wrong = [
            "", " ", "0", "0 1", "(", ")", ")(", "(0 1", "0 1)", "(0  1)", "( 0 1)", "(0 1 )", " (0 1)", "(0 1) ", "(0 1) (2 3)",
            "(0 1)\n", "(0,1)", "(00 1)", "(0 01)", "(1 0)", "(0 1)(2)", "(2)", "(0)", "(2 3)(0 1)", "(1 2 0)", "(0 1)(1 2)",
            "(0 1)(0 1)", "(0 0)", "(0 1 0)", "(0 5)", "(0 -1)", "(0 +1)", "(0 1))", "((0 1)", "(0 1)()", "()(0 1)", "()()", "( )",
            "(0 1)(2 3", "(0 1(2 3))", "(a b)", "(0 \u0661)", "(0 \u00b2)", "(0 1.0)", "(0\t1)", "[0 1]", "(0 True)", "(0 1_0)",
            "(0 " + "9" * 5000 + ")", "(" + "0 " * 3000 + "1)", "(0 1)" * 1500,
        ]
        for text in wrong:
            self.assertEqual(refused(self, NoText, read_move, text, 5).place, 0, text[:80])

    def test_things_that_are_no_texts(self):
        for thing in ODD + NUMBERS + [b"()", ("()",), ["()"]]:
            self.assertEqual(refused(self, NoText, read_move, thing, 5).place, 0)

    def test_point_at_the_edge(self):
        just(self, read_move("(0 4)", 5), (4, 1, 2, 3, 0))
        refused(self, NoText, read_move, "(0 4)", 4)
        refused(self, NoText, read_move, "(0 1)", 1)

    def test_number_ahead_of_text(self):
        for points in [0, 61, -1] + ODD + TEXTS:
            refused(self, NoNumber, read_move, "(0  1)", points)
            refused(self, NoNumber, read_move, None, points)


class ArgumentsTest(unittest.TestCase):
    """[2]: arguments go by place or by name."""

    def test_by_place_and_by_name(self):
        self.assertIs(by_place_and_name(self, is_move, thing=(1, 0)), True)
        just(self, by_place_and_name(self, rest, points=2), (0, 1))
        just(self, by_place_and_name(self, then, one=(1, 2, 0), other=(1, 0, 2)), (0, 2, 1))
        just(self, by_place_and_name(self, undo, one=(1, 2, 0)), (2, 0, 1))
        just(self, by_place_and_name(self, raised, one=(1, 2, 0), times=2), (2, 0, 1))
        just(self, by_place_and_name(self, turns, one=(1, 2, 0)), 3)
        just(self, by_place_and_name(self, rounds, one=(1, 2, 0)), ((0, 1, 2),))
        just(self, by_place_and_name(self, sign, one=(1, 2, 0)), 1)
        just(self, by_place_and_name(self, show_move, one=(1, 2, 0)), "(0 1 2)")
        just(self, by_place_and_name(self, read_move, text="(0 1)", points=3), (1, 0, 2))


if __name__ == "__main__":
    unittest.main()
