import random
import unittest

from movegroups.cosets import Cosets
from movegroups.errors import NoNumber, NoPairs, NoRules, NoWord, StillOpen
from movegroups.leasts import leasts, led_down, pairs
from movegroups.rules import Rules
from movegroups.words import is_less

from tests.groups import AB, KNOWN, cyclic, known, least_words_by_hand, less_key, make
from tests.kit import NUMBERS, ODD, TEXTS, by_place_and_name, just, refused
from tests.test_rules import NO_RULES_OBJECTS
from tests.test_words import NO_WORD_THINGS, all_words

# Moves of points that do as the letters of a group, and no two members alike.
DOINGS = {
    "one": ((0,),), "two": ((1, 0),), "seven": ((1, 2, 3, 4, 5, 6, 0),), "four": ((1, 0, 2, 3), (0, 1, 3, 2)),
    "turns of three": ((1, 0, 2), (1, 2, 0)), "turns of four": ((1, 0, 3, 2), (1, 2, 3, 0)),
    "eight": ((1, 2, 3, 0, 5, 6, 7, 4), (4, 7, 6, 5, 2, 1, 0, 3)),
    "twelve": ((1, 0, 3, 2), (0, 2, 3, 1)), "twenty-four": ((1, 0, 2, 3), (0, 2, 3, 1)),
    "sixty": ((1, 0, 3, 2, 4), (2, 1, 4, 3, 0)),
    "all of five": ((1, 0, 2, 3, 4), (0, 2, 1, 3, 4), (0, 1, 3, 2, 4), (0, 1, 2, 4, 3)),
    "six letters": ((1, 0),) * 6,
}
NO_PAIRS = [
    [], [((1,), ())], "ab", None, 1, True, {}, {(1,): ()}, ((1,), ()), (((1,), ()), ()), (((1,), (), ()),), (((1,),),), ([(1,), ()],),
    (([1], ()),), (((1,), []),), (((1,), (1,)),), (((), ()),), (((), (1,)),), (((1,), (-1,)),), (((1,), (2,)),), (((1,), (1, 1)),),
    (((1, 2), (2, 1)),), (((7,), ()),), (((0,), ()),), (((True,), ()),), (((1,) * 401, ()),), (((1,) * 401, (1,) * 400),),
    (((1,), ()), ((1,), (2,))), (((1,), ()), None), (None, ((1,), ())), ("ab",), ((1, ()),), (((1, 1), 1),), (((1,), "") ,),
]


def by_hand(word, pairs):
    """Each next word, by the words of the document alone."""
    told = [word]
    while True:
        word = told[-1]
        found = [
            (end, -len(left), place) for end in range(len(word) + 1) for place, (left, _) in enumerate(pairs)
            if len(left) <= end and word[end - len(left):end] == left]
        if not found:
            return tuple(told)
        end, length, place = min(found)
        told.append(word[:end + length] + pairs[place][1] + word[end:])


class LeastsTest(unittest.TestCase):
    def test_leasts_of_known_groups(self):
        for name, doing in DOINGS.items():
            hand = least_words_by_hand(doing)
            self.assertEqual(len(hand), KNOWN[name][2])
            just(self, leasts(known(name)), tuple(sorted(hand.values(), key=less_key)))

    def test_leasts_of_turns_of_three(self):
        just(self, leasts(known("turns of three")), ((), (1,), (2,), (-2,), (1, 2), (1, -2)))
        just(self, leasts(known("one")), ((),))
        just(self, leasts(known("hidden one")), ((),))

    def test_leasts_rise(self):
        for name in KNOWN:
            told = leasts(known(name))
            self.assertTrue(all(is_less(one, other) for one, other in zip(told, told[1:])))
            self.assertEqual(len(told), KNOWN[name][2])

    def test_most_enough_and_too_few(self):
        for name in ("turns of three", "twelve", "hundred and sixty-eight"):
            made = Cosets(known(name)).made()
            for call in (leasts, pairs):
                just(self, call(known(name), most=made), call(known(name)))
                refused(self, StillOpen, call, known(name), most=made - 1)
        for call in (leasts, pairs):
            refused(self, StillOpen, call, Rules(("a",), ()))
            refused(self, StillOpen, call, Rules(AB, ((1, 1), (2, 2))), most=5000)

    def test_members_at_the_edge(self):
        just(self, len(leasts(cyclic(240))), 240)
        just(self, max(len(word) for word in leasts(cyclic(240))), 120)
        just(self, pairs(cyclic(240)), (
            ((1, -1), ()), ((-1, 1), ()), ((-1,) * 120, (1,) * 120), ((1,) * 121, (-1,) * 119)))
        refused(self, StillOpen, leasts, cyclic(241))
        refused(self, StillOpen, pairs, cyclic(241))

    def test_no_rules_object(self):
        for call in (leasts, pairs):
            for thing in NO_RULES_OBJECTS:
                self.assertIsNone(refused(self, NoRules, call, thing).place)
                self.assertIsNone(refused(self, NoRules, call, thing, most=0).place)

    def test_no_number(self):
        for call in (leasts, pairs):
            for most in [0, -1, 5001, 10 ** 39] + ODD + TEXTS:
                refused(self, NoNumber, call, known("two"), most=most)
                refused(self, NoNumber, call, Rules(("a",), ()), most=most)

    def test_arguments(self):
        for call in (leasts, pairs):
            just(self, call(known("four")), call(most=2000, rules=known("four")))
            with self.assertRaises(TypeError):
                call(known("four"), 2000)


class PairsTest(unittest.TestCase):
    def test_pairs_of_known_groups(self):
        for name in ("one", "two", "four", "turns of three", "turns of four", "eight", "twelve"):
            doing = DOINGS[name]
            hand = least_words_by_hand(doing)
            least = set(hand.values())
            longest = max(len(word) for word in least)
            lefts = [
                word for word in all_words(len(doing), longest + 1)
                if word not in least and word[1:] in least and word[:-1] in least]
            lefts = sorted(lefts, key=less_key)
            just(self, pairs(known(name)), tuple((word, hand[make(word, doing)]) for word in lefts))

    def test_pairs_of_turns_of_three(self):
        just(self, pairs(known("turns of three")), (
            ((-1,), (1,)), ((1, 1), ()), ((2, 1), (1, -2)), ((2, 2), (-2,)), ((2, -2), ()), ((-2, 1), (1, 2)),
            ((-2, 2), ()), ((-2, -2), (2,))))
        just(self, pairs(known("one")), (((1,), ()), ((-1,), ())))

    def test_pairs_rise(self):
        for name in KNOWN:
            told = pairs(known(name))
            self.assertTrue(all(is_less(one[0], other[0]) for one, other in zip(told, told[1:])))
            self.assertTrue(all(is_less(right, left) for left, right in told))


class LedDownTest(unittest.TestCase):
    def test_by_all_pairs_to_the_least_word_alike(self):
        chance = random.Random(13)
        for name, doing in DOINGS.items():
            told = pairs(known(name))
            hand = least_words_by_hand(doing)
            words = list(all_words(len(doing), 3)) if len(doing) < 3 else []
            words += [
                tuple(chance.choice((1, -1)) * chance.randint(1, len(doing)) for _ in range(length)) for length in (9, 40, 400)]
            for word in words:
                way = led_down(word, told)
                self.assertEqual(way[0], word)
                self.assertEqual(way[-1], hand[make(word, doing)])
                self.assertTrue(all(is_less(later, one) for one, later in zip(way, way[1:])))
                if len(word) < 50:
                    just(self, way, by_hand(word, told))

    def test_way_of_turns_of_three(self):
        told = pairs(known("turns of three"))
        just(self, led_down((2, 1, 2, 1, -2), told), (
            (2, 1, 2, 1, -2), (1, -2, 2, 1, -2), (1, 1, -2), (-2,)))
        just(self, led_down((), told), ((),))
        just(self, led_down((1, 2), told), ((1, 2),))

    def test_pairs_left_out(self):
        told = pairs(known("turns of three"))
        just(self, led_down((2, 1, 1), ()), ((2, 1, 1),))
        just(self, led_down((), ()), ((),))
        chance = random.Random(14)
        for _ in range(60):
            some = tuple(pair for pair in told if chance.random() < 0.6)
            some = tuple(chance.sample(some, len(some)))
            word = tuple(chance.choice((1, -1, 2, -2)) for _ in range(12))
            just(self, led_down(word, some), by_hand(word, some))

    def test_longest_at_the_first_place(self):
        by = (((2,), ()), ((1, 2), (1,)), ((3, 1, 2), (3,)))
        just(self, led_down((3, 1, 2), by), ((3, 1, 2), (3,)))
        just(self, led_down((3, 1, 2), by[::-1]), ((3, 1, 2), (3,)))
        just(self, led_down((1, 2, 3, 1, 2), by), ((1, 2, 3, 1, 2), (1, 3, 1, 2), (1, 3)))
        just(self, led_down((1, 2, 3), (((1, 2, 3), ()), ((1, 2), (1,)))), ((1, 2, 3), (1, 3)))

    def test_first_of_alike_ones(self):
        just(self, led_down((2, 2), (((2, 2), (1,)), ((2, 2), ()))), ((2, 2), (1,)))
        just(self, led_down((2, 2), (((2, 2), ()), ((2, 2), (1,)), ((2, 2), ()))), ((2, 2), ()))
        just(self, led_down((1, 1), (((1,), ()), ((1,), ()))), ((1, 1), (1,), ()))

    def test_pairs_put_by_hand(self):
        chance = random.Random(15)
        words = list(all_words(2, 3))
        for _ in range(150):
            chosen = [sorted(chance.sample(words, 2), key=less_key) for _ in range(chance.randint(1, 6))]
            some = tuple((left, right) for right, left in chosen)
            word = tuple(chance.choice((1, -1, 2, -2)) for _ in range(chance.randint(0, 10)))
            just(self, led_down(word, some), by_hand(word, some))

    def test_exchanged_word_reaches_back(self):
        just(self, led_down((1, 1, 2, 2), (((1, 2), ()),)), ((1, 1, 2, 2), (1, 2), ()))
        just(self, led_down((3, 2), (((2,), (1,)), ((3, 1), (1, 1)), ((1, 1), ()))), ((3, 2), (3, 1), (1, 1), ()))

    def test_long_words(self):
        way = led_down((2,) * 20 + (1,) * 20, (((2, 1), (1, 2)),))
        self.assertEqual((len(way), way[-1]), (401, (1,) * 20 + (2,) * 20))
        way = led_down((6,) * 400, (((6,), ()),))
        self.assertEqual((len(way), way[-1]), (401, ()))

    def test_no_word(self):
        for thing in NO_WORD_THINGS:
            refused(self, NoWord, led_down, thing, ())
            refused(self, NoWord, led_down, thing, None)

    def test_no_pairs(self):
        for thing in NO_PAIRS + ODD + TEXTS + NUMBERS:
            refused(self, NoPairs, led_down, (1,), thing)
            refused(self, NoPairs, led_down, (), thing)
            if thing != ((1,), ()):
                refused(self, NoPairs, led_down, (1,), (((1,), ()), thing))

    def test_by_place_and_by_name(self):
        just(self, by_place_and_name(self, led_down, word=(1, 1), pairs=(((1, 1), ()),)), ((1, 1), ()))


if __name__ == "__main__":
    unittest.main()
