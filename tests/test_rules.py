import random
import unittest

from movegroups.errors import NoDoing, NoLetters, NoRules, NoWord
from movegroups.rules import Rules, broken, led

from tests.groups import AB, KNOWN, make
from tests.kit import NUMBERS, ODD, TEXTS, Loud, by_place_and_name, just, refused
from tests.test_words import NO_LETTERS, NO_WORD_THINGS

THREE = Rules(AB, ((1, 1), (2, 2, 2), (1, 2, 1, 2)))
DOING = ((1, 0, 2), (1, 2, 0))
NO_DOINGS = [
    (), ((1, 0, 2),), ((1, 0, 2), (1, 2, 0), (0, 1, 2)), ((1, 0, 2), (1, 0)), ((1, 0), (1, 2, 0)), ((1, 0, 2), (1, 2, 2)),
    ((1, 1, 1), (1, 2, 0)), ((1, 0, 2), [1, 2, 0]), ([1, 0, 2], (1, 2, 0)), [(1, 0, 2), (1, 2, 0)], [[1, 0, 2], [1, 2, 0]],
    ((True, 0, 2), (1, 2, 0)), ((1, 0, 2), None), (None, (1, 2, 0)), (None, None), ((), ()), ((), (0,)), "ab", {1: (1, 0), 2: (0, 1)},
    (tuple(range(61)), tuple(range(61))), (5, (1, 0)), ((1, 0), 5),
] + ODD + TEXTS + NUMBERS
NO_RULES_OBJECTS = [((1, 1), (2, 2)), "a b: a^2", Rules, (("a",), ()), ()] + ODD + TEXTS + NUMBERS


class RulesTest(unittest.TestCase):
    def test_values(self):
        for letters, rules, _ in KNOWN.values():
            told = Rules(letters, rules)
            just(self, told.letters, letters)
            just(self, told.rules, rules)
            just(self, len(told), len(rules))

    def test_none_to_three_hundred(self):
        for many in (0, 1, 2, 299, 300):
            told = Rules(("a", "b"), ((1, 2, -1),) * many)
            just(self, len(told), many)
            self.assertIs(bool(told), many > 0)
        for many in (301, 302, 1000):
            self.assertIsNone(refused(self, NoRules, Rules, ("a", "b"), ((1,),) * many).place)
            self.assertIsNone(refused(self, NoRules, Rules, ("a", "b"), ((0,),) * many).place)

    def test_words_that_are_kept_as_they_are(self):
        words = ((), (1, -1), (-1, 1, 1), (1,) * 400)
        just(self, Rules(("a",), words).rules, words)

    def test_str(self):
        just(self, str(Rules(("a", "b"), ((1, 1), (2, 2, 2)))), "a b: a^2, b^3")
        just(self, str(Rules(("a", "b"), ())), "a b:")
        just(self, str(Rules(("x",), ())), "x:")
        just(self, str(Rules(("x",), ((),))), "x: 1")
        just(self, str(Rules(("z", "y"), ((1, -1), (), (-2, -2, 1), (2,)))), "z y: z z^-1, 1, y^-2 z, y")

    def test_alike(self):
        same = Rules(("a", "b"), ((1, 1), (2, 2, 2), (1, 2, 1, 2)))
        self.assertIs(same == THREE, True)
        self.assertIs(same != THREE, False)
        others = [
            Rules(("a", "c"), THREE.rules), Rules(("b", "a"), THREE.rules), Rules(("a", "b", "c"), THREE.rules),
            Rules(AB, THREE.rules[:2]), Rules(AB, THREE.rules[::-1]), Rules(AB, ()), Rules(AB, THREE.rules + ((),)),
        ]
        for other in others + [THREE.rules, (THREE.letters, THREE.rules), str(THREE), Loud()] + ODD + TEXTS + NUMBERS:
            self.assertIs(THREE == other, False)
            self.assertIs(THREE != other, True)

    def test_no_letters(self):
        for letters in NO_LETTERS:
            refused(self, NoLetters, Rules, letters, ())
            refused(self, NoLetters, Rules, letters, ((0,),))
            refused(self, NoLetters, Rules, letters, None)

    def test_no_rules(self):
        for thing in [[], [(1,)], "a", None, {(1,): 1}, 1, range(2)]:
            self.assertIsNone(refused(self, NoRules, Rules, AB, thing).place)
        for thing in NO_WORD_THINGS + [(3,), (-3,), (1, 3)]:
            self.assertEqual(refused(self, NoRules, Rules, AB, (thing,)).place, 0)
            self.assertEqual(refused(self, NoRules, Rules, AB, ((1,), thing, thing)).place, 1)
            self.assertEqual(refused(self, NoRules, Rules, AB, ((),) * 299 + (thing,)).place, 299)

    def test_by_place_and_by_name(self):
        told = by_place_and_name(self, Rules, letters=AB, rules=((1,),))
        self.assertEqual(told, Rules(AB, ((1,),)))


class LedTest(unittest.TestCase):
    def test_letter_by_letter(self):
        just(self, led(THREE, (), DOING), (0, 1, 2))
        just(self, led(THREE, (1,), DOING), (1, 0, 2))
        just(self, led(THREE, (2,), DOING), (1, 2, 0))
        just(self, led(THREE, (-2,), DOING), (2, 0, 1))
        just(self, led(THREE, (1, 2), DOING), (2, 1, 0))
        just(self, led(THREE, (2, 1), DOING), (0, 2, 1))
        just(self, led(THREE, (2, -2, 2, 2), DOING), (2, 0, 1))
        just(self, led(Rules(("a",), ()), (1,) * 400, ((1, 2, 0),)), (1, 2, 0))

    def test_as_by_hand(self):
        chance = random.Random(9)
        for points in (1, 2, 5, 60):
            for many in (1, 2, 6):
                doing = tuple(tuple(chance.sample(range(points), points)) for _ in range(many))
                rules = Rules(("a", "b", "c", "d", "e", "f")[:many], ())
                for length in (0, 1, 2, 30):
                    word = tuple(chance.choice((1, -1)) * chance.randint(1, many) for _ in range(length))
                    just(self, led(rules, word, doing), make(word, doing))

    def test_broken(self):
        self.assertIsNone(broken(THREE, DOING))
        self.assertIsNone(broken(Rules(AB, ()), DOING))
        self.assertIsNone(broken(Rules(AB, ((), (1, -1))), DOING))
        self.assertIsNone(broken(THREE, ((0,), (0,))))
        just(self, broken(THREE, ((1, 2, 0), (1, 0, 2))), 0)
        just(self, broken(THREE, ((1, 0, 2), (1, 0, 2))), 1)
        just(self, broken(THREE, ((1, 0, 2, 3), (0, 2, 3, 1))), 2)
        just(self, broken(Rules(AB, ((),) * 299 + ((1,),)), DOING), 299)

    def test_no_rules_object(self):
        for thing in NO_RULES_OBJECTS:
            self.assertIsNone(refused(self, NoRules, led, thing, (1,), DOING).place)
            self.assertIsNone(refused(self, NoRules, led, thing, (0,), None).place)
            self.assertIsNone(refused(self, NoRules, broken, thing, DOING).place)
            self.assertIsNone(refused(self, NoRules, broken, thing, ()).place)

    def test_no_word(self):
        for thing in NO_WORD_THINGS + [(3,), (1, -3)]:
            refused(self, NoWord, led, THREE, thing, DOING)
            refused(self, NoWord, led, THREE, thing, ())

    def test_no_doing(self):
        for thing in NO_DOINGS:
            refused(self, NoDoing, led, THREE, (1,), thing)
            refused(self, NoDoing, led, THREE, (), thing)
            refused(self, NoDoing, broken, THREE, thing)
            refused(self, NoDoing, broken, Rules(AB, ()), thing)

    def test_by_place_and_by_name(self):
        just(self, by_place_and_name(self, led, rules=THREE, word=(1, 2), doing=DOING), (2, 1, 0))
        just(self, by_place_and_name(self, broken, rules=THREE, doing=DOING[::-1]), 0)


if __name__ == "__main__":
    unittest.main()
