import random
import unittest

from movegroups.errors import NoMoves, NoNumber, NoRecipe
from movegroups.moves import then, undo
from movegroups.recipes import made_by, slimmed

from tests.kit import NUMBERS, ODD, TEXTS, Loud, by_place_and_name, just, refused

TURN, SWAP = (1, 2, 3, 4, 0), (1, 0, 2, 3, 4)
MOVES = (TURN, SWAP)
REST = ("rest",)
# None of these is a step, at any place, by any moves.
NO_STEPS = [
    (), [], ["rest"], "rest", ("rest", 0), ("rest", None), ("Rest",), ("",), ("rest ",), (REST,), ("move",), ("move", 0, 0), ("move", -1),
    ("move", True), ("move", False), ("move", "0"), ("move", None), ("move", (0,)), ["move", 0], ("moves", 0), ("then",), ("then", 0),
    ("then", 0, 0, 0), ("then", -1, 0), ("then", 0, -1), ("then", 0, True), ("then", False, 0), ("then", 0, "0"), ("then", (0, 0)),
    ("then", [0], 0), ["then", 0, 0], ("undo",), ("undo", 0, 0), ("undo", -1), ("undo", True), ("undo", False), ("undo", None), ["undo", 0],
    (b"rest",), (0,), (None,), (True, 0), ("back", 0), ("undo", Loud()), (Loud(),), (Loud(), 0), ("move", Loud()), (("rest",),),
    ("undo", 10 ** 39), ("then", 10 ** 39, 0), ("move", -10 ** 39),
]


def some_recipe(chance, many, length):
    """A recipe by MANY moves."""
    told = []
    for place in range(length):
        kinds = [REST] + [("move", number) for number in range(many)]
        if place:
            ahead = [chance.randrange(place), chance.randrange(place)]
            kinds += [("then", *ahead), ("undo", ahead[0])] * 3
        told.append(chance.choice(kinds))
    return tuple(told)


def slim_by_hand(recipe):
    """The numbers of the steps to which the last one comes."""
    met, further = set(), [len(recipe) - 1]
    while further:
        place = further.pop()
        if place not in met:
            met.add(place)
            further += recipe[place][1:] if recipe[place][0] in ("then", "undo") else ()
    return sorted(met)


class MadeByTest(unittest.TestCase):
    """[5]"""

    def test_each_kind_of_step(self):
        just(self, made_by((REST,), MOVES, 5), ((0, 1, 2, 3, 4),))
        just(self, made_by((("move", 0),), MOVES, 5), (TURN,))
        just(self, made_by((("move", 1), ("move", 0)), MOVES, 5), (SWAP, TURN))
        just(self, made_by((("move", 0), ("move", 1), ("then", 0, 1)), MOVES, 5)[2], then(TURN, SWAP))
        just(self, made_by((("move", 0), ("move", 1), ("then", 1, 0)), MOVES, 5)[2], then(SWAP, TURN))
        self.assertNotEqual(then(TURN, SWAP), then(SWAP, TURN))
        just(self, made_by((("move", 0), ("undo", 0)), MOVES, 5), (TURN, (4, 0, 1, 2, 3)))
        just(self, made_by((("move", 0), ("then", 0, 0)), MOVES, 5)[1], (2, 3, 4, 0, 1))

    def test_no_steps(self):
        just(self, made_by((), MOVES, 5), ())
        just(self, made_by((), (), 1), ())

    def test_points_at_the_edges(self):
        just(self, made_by((REST,), (), 1), ((0,),))
        just(self, made_by((REST,), (), 60), (tuple(range(60)),))
        turn = tuple(range(1, 60)) + (0,)
        just(self, made_by((("move", 100), ("undo", 0)), (turn,) * 101, 60), (turn, undo(turn)))

    def test_some_recipes_by_hand(self):
        chance = random.Random(5)
        for _ in range(200):
            recipe = some_recipe(chance, 2, chance.randint(1, 12))
            told = []
            for word, *numbers in recipe:
                told.append({
                    "rest": lambda: tuple(range(5)), "move": lambda k: MOVES[k], "then": lambda i, j: then(told[i], told[j]),
                    "undo": lambda i: undo(told[i])}[word](*numbers))
            just(self, made_by(recipe, MOVES, 5), tuple(told))

    def test_no_number(self):
        for thing in [0, 61, -1, 10 ** 39] + ODD + TEXTS:
            refused(self, NoNumber, made_by, (REST,), MOVES, thing)
            refused(self, NoNumber, made_by, None, None, thing)

    def test_no_moves(self):
        for thing in [[], [TURN], {}, "", None, [TURN, SWAP]] + [thing for thing in ODD if not isinstance(thing, tuple)]:
            self.assertIsNone(refused(self, NoMoves, made_by, (REST,), thing, 5).place)
            self.assertIsNone(refused(self, NoMoves, made_by, None, thing, 5).place)
        for thing in [(0, 1, 2, 3), (0, 1, 2, 3, 4, 5), [0, 1, 2, 3, 4], (0, 1, 2, 3, 3), (False, 1, 2, 3, 4), (0, True, 2, 3, 4)] + ODD + TEXTS:
            for place in range(3):
                moves = MOVES[:place] + (thing,) + MOVES[place:] + (None,)
                just(self, refused(self, NoMoves, made_by, (REST,), moves, 5).place, place)
                just(self, refused(self, NoMoves, made_by, None, moves, 5).place, place)
        just(self, refused(self, NoMoves, made_by, (), (TURN,), 4).place, 0)
        just(self, refused(self, NoMoves, made_by, (), TURN, 5).place, 0)

    def test_no_recipe(self):
        for thing in [[], [REST], "rest", {0: REST}, range(1)] + NUMBERS + TEXTS + [thing for thing in ODD if not isinstance(thing, tuple)]:
            self.assertIsNone(refused(self, NoRecipe, made_by, thing, MOVES, 5).place)
        for thing in NO_STEPS + ODD + TEXTS + NUMBERS:
            for place in range(3):
                recipe = (REST, ("move", 1))[:place] + (thing,) + (REST, None)
                just(self, refused(self, NoRecipe, made_by, recipe, MOVES, 5).place, place)
        just(self, refused(self, NoRecipe, made_by, REST, MOVES, 5).place, 0)

    def test_steps_that_are_not_ahead(self):
        for step in [("then", 2, 0), ("then", 0, 2), ("undo", 2), ("undo", 3), ("then", 3, 3), ("then", 2, 2)]:
            just(self, refused(self, NoRecipe, made_by, (REST, REST, step, REST), MOVES, 5).place, 2)
        for step in [("undo", 0), ("then", 0, 0)]:
            just(self, refused(self, NoRecipe, made_by, (step,), MOVES, 5).place, 0)

    def test_moves_that_are_not_there(self):
        for number in (2, 3, 100, 10 ** 39):
            just(self, refused(self, NoRecipe, made_by, (REST, ("move", number)), MOVES, 5).place, 1)
        just(self, refused(self, NoRecipe, made_by, (("move", 0),), (), 5).place, 0)

    def test_by_place_and_by_name(self):
        just(self, by_place_and_name(self, made_by, recipe=(("move", 0),), moves=MOVES, points=5), (TURN,))


class SlimmedTest(unittest.TestCase):
    """[5]"""

    def test_all_wanted(self):
        for recipe in [(REST,), (("move", 7),), (("move", 0), ("undo", 0)), (REST, ("move", 1), ("then", 0, 1)), (REST, REST, ("then", 1, 0))]:
            just(self, slimmed(recipe), recipe)

    def test_some_not(self):
        just(self, slimmed((("move", 0), REST)), (REST,))
        just(self, slimmed((("move", 0), ("move", 1))), (("move", 1),))
        just(self, slimmed((REST, ("move", 1), ("undo", 0), ("undo", 1))), (("move", 1), ("undo", 0)))
        just(self, slimmed((("move", 0), ("move", 1), ("move", 2), ("undo", 0), ("then", 2, 0), ("then", 4, 4))), (
            ("move", 0), ("move", 2), ("then", 1, 0), ("then", 2, 2)))

    def test_alike_ones_are_kept(self):
        just(self, slimmed((REST, ("move", 3), ("move", 3), ("then", 1, 2))), (("move", 3), ("move", 3), ("then", 0, 1)))

    def test_moves_of_any_number(self):
        for number in (0, 99, 100, 101, 10 ** 39):
            just(self, slimmed((REST, ("move", number))), (("move", number),))

    def test_some_recipes_by_hand(self):
        chance = random.Random(55)
        for _ in range(300):
            recipe = some_recipe(chance, 2, chance.randint(1, 14))
            told = slimmed(recipe)
            kept = slim_by_hand(recipe)
            just(self, len(told), len(kept))
            made = made_by(recipe, MOVES, 5)
            just(self, made_by(told, MOVES, 5), tuple(made[place] for place in kept))
            self.assertEqual([step[0] for step in told], [recipe[place][0] for place in kept])
            just(self, slimmed(told), told)

    def test_long_recipe(self):
        recipe = (("move", 0),) + tuple(("then", place, place) for place in range(4000))
        just(self, slimmed(recipe), recipe)
        just(self, slimmed(recipe + (REST,)), (REST,))

    def test_no_recipe(self):
        self.assertIsNone(refused(self, NoRecipe, slimmed, ()).place)
        for thing in [[], [REST], "rest", {0: REST}] + NUMBERS + TEXTS + [thing for thing in ODD if not isinstance(thing, tuple)]:
            self.assertIsNone(refused(self, NoRecipe, slimmed, thing).place)
        for thing in NO_STEPS + ODD + TEXTS + NUMBERS:
            for place in range(3):
                recipe = (REST, ("move", 1))[:place] + (thing,) + (REST, None)
                just(self, refused(self, NoRecipe, slimmed, recipe).place, place)
        for step in [("then", 2, 0), ("then", 0, 2), ("undo", 2), ("undo", 3)]:
            just(self, refused(self, NoRecipe, slimmed, (REST, REST, step, REST)).place, 2)

    def test_by_place_and_by_name(self):
        just(self, by_place_and_name(self, slimmed, recipe=(REST, REST)), (REST,))

    def test_what_is_handed_in_stays(self):
        recipe = (REST, ("move", 1), ("undo", 1))
        just(self, slimmed(recipe), slimmed(recipe))
        just(self, recipe, (REST, ("move", 1), ("undo", 1)))


if __name__ == "__main__":
    unittest.main()
