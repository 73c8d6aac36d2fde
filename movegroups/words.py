"""Words by letters: tuples of numbers, below 0 for backs."""

from movegroups.bounds import MOST_LETTERS, MOST_TIMES, MOST_WORD
from movegroups.errors import NoLetters, NoNumber, NoText, NoWord
from movegroups.wholes import is_between

SMALL = "abcdefghijklmnopqrstuvwxyz"


def is_word(thing, many):
    """Whether THING, of any kind, is a word by MANY letters."""
    if not isinstance(thing, tuple) or len(thing) > MOST_WORD:
        return False
    return all([is_between(letter, -many, many) and letter != 0 for letter in thing])


def check_word(thing, many):
    """Refuse what is no word by MANY letters."""
    if not is_word(thing, many):
        raise NoWord("no word by these letters")


def are_letters(thing):
    """Whether THING, of any kind, is a tuple of one to six unlike small letters."""
    if not isinstance(thing, tuple) or not 1 <= len(thing) <= MOST_LETTERS:
        return False
    if not all([isinstance(letter, str) and len(letter) == 1 and letter in SMALL for letter in thing]):
        return False
    return len(set(thing)) == len(thing)


def check_letters(thing):
    """Refuse what is no tuple of one to six unlike small letters."""
    if not are_letters(thing):
        raise NoLetters("no tuple of one to six unlike small letters")


def place_of(letter):
    """The place, from 0, of LETTER among 1, -1, 2, -2 and so on."""
    return 2 * letter - 2 if letter > 0 else -2 * letter - 1


def letter_at(place):
    """The letter at PLACE, from 0, among 1, -1, 2, -2 and so on."""
    return -(place // 2 + 1) if place % 2 else place // 2 + 1


def freed(word):
    """WORD without neighbours that take each other back."""
    check_word(word, MOST_LETTERS)
    return _free(word)


def linked(one, other):
    """The one and the other, freed."""
    check_word(one, MOST_LETTERS)
    check_word(other, MOST_LETTERS)
    return _free(one + other)


def backed(word):
    """The backs of the letters of WORD from its end on, not freed."""
    check_word(word, MOST_LETTERS)
    return tuple([-letter for letter in word[::-1]])


def many_times(word, times):
    """WORD done TIMES times, freed; below 0 its back, as often."""
    back = backed(word)
    if not is_between(times, -MOST_TIMES, MOST_TIMES):
        raise NoNumber("no whole number of times within the bounds")
    return _free(word * times if times > 0 else back * -times)


def rounded(word):
    """WORD freed, and freed where its end meets its front, too."""
    check_word(word, MOST_LETTERS)
    word = _free(word)
    while word and word[0] == -word[-1]:
        word = word[1:-1]
    return word


def is_less(one, other):
    """Whether ONE is shorter, or as long and ahead by its first unlike letter."""
    check_word(one, MOST_LETTERS)
    check_word(other, MOST_LETTERS)
    if len(one) != len(other):
        return len(one) < len(other)
    return [place_of(letter) for letter in one] < [place_of(letter) for letter in other]


def show_word(word, letters):
    """WORD as a text by LETTERS."""
    check_letters(letters)
    check_word(word, len(letters))
    return _show(word, letters)


def read_word(text, letters):
    """The word that show_word shows as TEXT by LETTERS."""
    check_letters(letters)
    word = _parsed(text, letters)
    if word is None or _show(word, letters) != text:
        raise NoText(0)
    return word


def _free(word):
    kept = []
    for letter in word:
        if kept and kept[-1] == -letter:
            kept.pop()
        else:
            kept.append(letter)
    return tuple(kept)


def _show(word, letters):
    runs = []
    for letter in word:
        if runs and runs[-1][0] == letter:
            runs[-1][1] += 1
        else:
            runs.append([letter, 1])
    return " ".join([_show_run(letter, many, letters) for letter, many in runs]) or "1"


def _show_run(letter, many, letters):
    if letter < 0:
        return f"{letters[-letter - 1]}^-{many}"
    return letters[letter - 1] if many == 1 else f"{letters[letter - 1]}^{many}"


def _parsed(text, letters):
    """The word of runs in TEXT, however they are put; None where there is none."""
    if not isinstance(text, str):
        return None
    if text == "1":
        return ()
    word = []
    for part in text.split(" "):
        letter, mark, power = part.partition("^")
        if letter not in letters or (mark and not _is_power(power)):
            return None
        times = int(power) if mark else 1
        number = letters.index(letter) + 1
        word.extend([number] * times if times > 0 else [-number] * -times)
        if len(word) > MOST_WORD:
            return None
    return tuple(word)


def _is_power(text):
    # Short and plain ahead of int(..), which takes signs of other scripts, too.
    digits = text.removeprefix("-")
    return len(digits) < 4 and digits.isascii() and digits.isdigit()
