"""Least words of a group told by rules, and pairs that lead down to them."""

from movegroups.bounds import MOST, MOST_LEASTS, MOST_LETTERS
from movegroups.cosets import Cosets
from movegroups.errors import NoPairs, StillOpen
from movegroups.words import check_word, is_less, is_word, letter_at


def leasts(rules, *, most=MOST):
    """The least word of each member, rising."""
    return _paths(_closed(rules, most))


def pairs(rules, *, most=MOST):
    """Each word that isn't least, though its parts are, with the least word alike."""
    cosets = _closed(rules, most)
    words = _paths(cosets)
    known = {word: True for word in words}
    found = []
    for word, row in zip(words, cosets.rows()):
        for place, image in enumerate(row):
            left = word + (letter_at(place),)
            if left != words[image] and left[1:] in known:
                found.append((left, words[image]))
    return tuple(found)


def led_down(word, pairs):
    """WORD, and each next one, by the first place at which a LEFT of PAIRS ends, up to one that has none."""
    check_word(word, MOST_LETTERS)
    if not _are_pairs(pairs):
        raise NoPairs("no pairs of words whose second is less")
    rights = {}
    for left, right in pairs:
        rights.setdefault(left, right)
    lengths = sorted({len(left) for left in rights})[::-1]
    told = [word]
    start, end = _first_left(word, rights, lengths, 1)
    while end > 0:
        word = word[:start] + rights[word[start:end]] + word[end:]
        told.append(word)
        # Ahead of START no LEFT ended before, and nothing has changed there.
        start, end = _first_left(word, rights, lengths, start + 1)
    return tuple(told)


def _closed(rules, most):
    cosets = Cosets(rules, (), most=most)
    if not cosets.closed() or cosets.index() > MOST_LEASTS:
        raise StillOpen("the cosets of nothing aren't closed, or too many")
    return cosets


def _paths(cosets):
    return tuple([cosets.path(row) for row in range(cosets.index())])


def _are_pairs(thing):
    return isinstance(thing, tuple) and all([_is_pair(pair) for pair in thing])


def _is_pair(thing):
    if not isinstance(thing, tuple) or len(thing) != 2:
        return False
    left, right = thing
    return is_word(left, MOST_LETTERS) and is_word(right, MOST_LETTERS) and is_less(right, left)


def _first_left(word, rights, lengths, first):
    """Where the longest LEFT begins and ends that ends first, from the place FIRST on; (0, 0) where none does."""
    for end in range(first, len(word) + 1):
        for length in lengths:
            if length <= end and word[end - length:end] in rights:
                return end - length, end
    return 0, 0
