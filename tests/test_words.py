import itertools
import random
import unittest

from movegroups.errors import NoLetters, NoNumber, NoText, NoWord
from movegroups.words import backed, freed, is_less, linked, many_times, read_word, rounded, show_word

from tests.kit import NUMBERS, ODD, TEXTS, by_place_and_name, just, refused

SIX = ("a", "b", "c", "d", "e", "f")
NO_WORDS = [
    (0,), (7,), (-7,), (1, 0), (1, 7), (1,) * 401, (1, -1) * 201, (True,), (1, True), (False,), ("1",), (1, None), (1, (1,)),
    [1], [], [1, -1], "a", "1", "", 1, None, {1: 1}, {1}, b"\x01", (10 ** 40,), range(1, 3),
]
NO_WORD_THINGS = NO_WORDS + TEXTS + NUMBERS + [thing for thing in ODD if thing != ()]
NO_LETTERS = [
    (), ("a", "b", "c", "d", "e", "f", "g"), ("a", "a"), ("a", "b", "a"), ("A",), ("a", "B"), ("ab",), ("",), ("a", ""), ("a", " "),
    ("1",), ("\u00e4",), ("\u0430",), ("\u00df",), ["a"], ["a", "b"], "a", "ab", {"a": 1}, {"a"}, None, (None,), (1,), ("a", 1),
    ("a", True), (b"a",), b"a", (("a",),), ("a", ["b"]), ("^",), ("-",),
] + TEXTS + NUMBERS + ODD


def all_words(many, most):
    turns = [sign * letter for letter in range(1, many + 1) for sign in (1, -1)]
    for length in range(most + 1):
        yield from itertools.product(turns, repeat=length)


def freed_by_hand(word):
    for place in range(len(word) - 1):
        if word[place] + word[place + 1] == 0:
            return freed_by_hand(word[:place] + word[place + 2:])
    return word


def long_words():
    chance = random.Random(8)
    for length in (1, 2, 50, 399, 400):
        for _ in range(5):
            yield tuple(chance.choice([-6, -2, -1, 1, 2, 6]) for _ in range(length))


class FreeingTest(unittest.TestCase):
    def test_freed(self):
        just(self, freed(()), ())
        just(self, freed((1, -1)), ())
        just(self, freed((-1, 1)), ())
        just(self, freed((1, 2, -2, -1, 3)), (3,))
        just(self, freed((1, 1)), (1, 1))
        just(self, freed((6, -6, 6)), (6,))
        just(self, freed((1,) * 400), (1,) * 400)
        just(self, freed((1, -1) * 200), ())

    def test_freed_as_by_hand(self):
        for word in list(all_words(2, 5)):
            just(self, freed(word), freed_by_hand(word))

    def test_linked(self):
        just(self, linked((), ()), ())
        just(self, linked((1, 2), (-2, 3)), (1, 3))
        just(self, linked((1, -1), (2,)), (2,))
        for one in all_words(2, 2):
            for other in all_words(2, 2):
                just(self, linked(one, other), freed_by_hand(one + other))

    def test_linked_may_be_longer_than_a_word(self):
        told = linked((1,) * 400, (2,) * 400)
        just(self, told, (1,) * 400 + (2,) * 400)
        refused(self, NoWord, freed, told)

    def test_backed(self):
        just(self, backed(()), ())
        just(self, backed((1, -2, 3)), (-3, 2, -1))
        just(self, backed((1, -1)), (1, -1))
        just(self, backed((2, -1, 1)), (-1, 1, -2))
        for word in long_words():
            just(self, backed(backed(word)), word)
            just(self, linked(word, backed(word)), ())

    def test_many_times(self):
        just(self, many_times((1, 2), 0), ())
        just(self, many_times((1, 2), 1), (1, 2))
        just(self, many_times((1, 2), 3), (1, 2, 1, 2, 1, 2))
        just(self, many_times((1, 2), -2), (-2, -1, -2, -1))
        just(self, many_times((1, 2, -1), 20), (1,) + (2,) * 20 + (-1,))
        just(self, many_times((1, 2, -1), -20), (1,) + (-2,) * 20 + (-1,))
        just(self, many_times((1, -1), 5), ())
        just(self, many_times((), 20), ())
        just(self, many_times((3,) * 400, 20), (3,) * 8000)
        for word in long_words():
            made = ()
            for times in range(5):
                just(self, many_times(word, times), made)
                just(self, many_times(word, -times), tuple(-letter for letter in made[::-1]))
                made = freed_long(made + word)

    def test_no_number_of_times(self):
        for thing in [-21, 21, 10 ** 39, -10 ** 39, "2"] + ODD + TEXTS:
            refused(self, NoNumber, many_times, (1, 2), thing)
        refused(self, NoWord, many_times, (0,), 21)
        refused(self, NoWord, many_times, [1], True)

    def test_rounded(self):
        just(self, rounded(()), ())
        just(self, rounded((1,)), (1,))
        just(self, rounded((1, 2, -1)), (2,))
        just(self, rounded((1, 2, -2, -1)), ())
        just(self, rounded((1, 2, 3, -2, -1)), (3,))
        just(self, rounded((2, 1, -1, 1, -2)), (1,))
        just(self, rounded((1, 2, 1)), (1, 2, 1))
        just(self, rounded((1, 2, 3, -1)), (2, 3))
        just(self, rounded((1,) * 199 + (2, 2) + (-1,) * 199), (2, 2))

    def test_rounded_as_by_hand(self):
        for word in all_words(2, 5):
            left = freed_by_hand(word)
            while left and left[0] == -left[-1]:
                left = left[1:-1]
            just(self, rounded(word), left)

    def test_is_less(self):
        rising = sorted(all_words(2, 3), key=lambda word: (len(word), [(abs(k), k < 0) for k in word]))
        self.assertEqual(rising[:8], [(), (1,), (-1,), (2,), (-2,), (1, 1), (1, -1), (1, 2)])
        for place, one in enumerate(rising):
            for other_place, other in enumerate(rising):
                self.assertIs(is_less(one, other), place < other_place)

    def test_is_less_at_the_edges(self):
        self.assertIs(is_less((), ()), False)
        self.assertIs(is_less((-6,), (1, 1)), True)
        self.assertIs(is_less((1, -1), (-6,)), False)
        self.assertIs(is_less((6,), (-6,)), True)
        self.assertIs(is_less((-5,), (6,)), True)
        self.assertIs(is_less((1,) * 400, (1,) * 399 + (-1,)), True)
        self.assertIs(is_less((1,) * 400, (1,) * 400), False)

    def test_no_word_is_refused(self):
        for thing in NO_WORD_THINGS:
            for call in (freed, backed, rounded):
                refused(self, NoWord, call, thing)
            for call in (linked, is_less):
                refused(self, NoWord, call, thing, (1,))
                refused(self, NoWord, call, (1,), thing)
            refused(self, NoWord, many_times, thing, 1)
            refused(self, NoWord, show_word, thing, SIX)

    def test_word_of_four_hundred(self):
        word = (1,) * 400
        for call in (freed, rounded):
            just(self, call(word), word)
        just(self, backed(word), (-1,) * 400)


def freed_long(word):
    kept = []
    for letter in word:
        kept.append(letter)
        while len(kept) > 1 and kept[-1] == -kept[-2]:
            del kept[-2:]
    return tuple(kept)


class TextTest(unittest.TestCase):
    def test_show(self):
        just(self, show_word((), ("a",)), "1")
        just(self, show_word((1,), ("a",)), "a")
        just(self, show_word((-1,), ("a",)), "a^-1")
        just(self, show_word((1, 1, 1), ("x",)), "x^3")
        just(self, show_word((-1, -1), ("x",)), "x^-2")
        just(self, show_word((1, -1), ("a",)), "a a^-1")
        just(self, show_word((1, 1, 2, 2, 2, -1, 2, -6), SIX), "a^2 b^3 a^-1 b f^-1")
        just(self, show_word((2, 1), ("z", "a")), "a z")
        just(self, show_word((1,) * 400, ("a",)), "a^400")
        just(self, show_word((-1,) * 400, ("a",)), "a^-400")

    def test_there_and_back(self):
        for many in range(1, 7):
            letters = SIX[:many]
            for word in all_words(many, 2 if many > 3 else 3):
                just(self, read_word(show_word(word, letters), letters), word)
        for word in long_words():
            just(self, read_word(show_word(word, SIX), SIX), word)
        for word in [(), (1,), (1, 1, -2)]:
            just(self, read_word(show_word(word, ("z", "q")), ("z", "q")), word)

    def test_texts_that_are_no_words(self):
        wrong = [
            "", " ", "a^1", "a^0", "a^-0", "a^03", "a^+2", "a^-02", "a^", "a^-", "^2", "^", "a^^2", "a^2^2", "a^--2", "a^ 2", "a ^2",
            "a a", "a^2 a", "a a^2", "a^-1 a^-1", "a^-1 a^-2", "a  b", " a", "a ", "a b ", "a\n", "a\tb", "ab", "1 a", "a 1", "1 1", "11",
            "0", "2", "-1", "-a", "A", "c", "a c", "a^2 c", "a^b", "a,b", "a*b", "a^2.0", "a^1_0", "a^\u0662", "a^\u00b2", "a^401",
            "a^-401", "a^400 b", "a^999", "a^1000", "a^10000000000", "a^" + "9" * 5000, "a b " * 200 + "a", "a " * 3999 + "b",
            "a^999 b^999 " * 600 + "a", "1^2",
        ]
        for text in wrong:
            self.assertEqual(refused(self, NoText, read_word, text, ("a", "b")).place, 0, text[:80])

    def test_things_that_are_no_texts(self):
        for thing in ODD + NUMBERS + [b"a", ("a",), ["a"], 1]:
            self.assertEqual(refused(self, NoText, read_word, thing, ("a", "b")).place, 0)

    def test_longest_texts(self):
        just(self, read_word("a^400", ("a",)), (1,) * 400)
        just(self, read_word("a^-200 b^200", ("a", "b")), (-1,) * 200 + (2,) * 200)
        just(self, read_word(" ".join(["a b"] * 200), ("a", "b")), (1, 2) * 200)
        refused(self, NoText, read_word, " ".join(["a b"] * 200 + ["a"]), ("a", "b"))

    def test_no_letters_ahead_of_all_else(self):
        for letters in NO_LETTERS:
            refused(self, NoLetters, show_word, (1,), letters)
            refused(self, NoLetters, show_word, (0,), letters)
            refused(self, NoLetters, read_word, "a", letters)
            refused(self, NoLetters, read_word, "a^1", letters)
            refused(self, NoLetters, read_word, None, letters)

    def test_word_by_other_letters(self):
        refused(self, NoWord, show_word, (2,), ("a",))
        refused(self, NoWord, show_word, (1, -3), ("a", "b"))
        refused(self, NoWord, show_word, (6,), SIX[:5])
        just(self, show_word((6,), SIX), "f")


class ArgumentsTest(unittest.TestCase):
    """[2]: arguments go by place or by name."""

    def test_by_place_and_by_name(self):
        just(self, by_place_and_name(self, freed, word=(1, -1)), ())
        just(self, by_place_and_name(self, linked, one=(1, 2), other=(-2,)), (1,))
        just(self, by_place_and_name(self, backed, word=(1, 2)), (-2, -1))
        just(self, by_place_and_name(self, many_times, word=(1,), times=-2), (-1, -1))
        just(self, by_place_and_name(self, rounded, word=(1, 2, -1)), (2,))
        just(self, by_place_and_name(self, show_word, word=(1, 1), letters=("a",)), "a^2")
        just(self, by_place_and_name(self, read_word, text="a^2", letters=("a",)), (1, 1))
        self.assertIs(by_place_and_name(self, is_less, one=(), other=(1,)), True)


if __name__ == "__main__":
    unittest.main()
