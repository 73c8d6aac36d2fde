"""The cosets of a part of a group told by rules."""

from movegroups.bounds import MOST, MOST_NAMES, MOST_POINTS, MOST_SUBS
from movegroups.errors import NoLarge, NoNumber, NoRow, NoWord, StillOpen
from movegroups.naming import Naming, numbered, run
from movegroups.rules import check_rules
from movegroups.wholes import is_between
from movegroups.words import check_word, place_of


class Cosets:
    """The cosets of the part that the words SUBS make, by a making of at most MOST names."""

    def __init__(self, rules, subs=(), *, most=MOST):
        check_rules(rules)
        _check_subs(subs, len(rules.letters))
        if not is_between(most, 1, MOST_NAMES):
            raise NoNumber("no number of names within the bounds")
        naming = Naming(len(rules.letters), most)
        run(naming, subs, rules.rules)
        self.rules = rules
        self.subs = subs
        self._closed = not naming.stopped
        self._made = len(naming.less)
        self._trace = tuple(naming.steps)
        self._rows, self._whence = numbered(naming.images) if self._closed else ((), [])

    def closed(self):
        """Whether the making of names ended."""
        return self._closed

    def made(self):
        """How many names were made, 0 too."""
        return self._made

    def index(self):
        """How many cosets there are."""
        self._check_closed()
        return len(self._rows)

    def rows(self):
        """The images of each row by the letters 1, -1, 2, -2 and so on."""
        self._check_closed()
        return self._rows

    def doing(self):
        """A move of the rows for each letter."""
        self._check_closed()
        if len(self._rows) > MOST_POINTS:
            raise NoLarge("more rows than a move has points")
        return tuple([tuple([row[2 * letter] for row in self._rows]) for letter in range(len(self.rules.letters))])

    def row_of(self, word):
        """The row to which WORD leads from 0."""
        self._check_closed()
        check_word(word, len(self.rules.letters))
        row = 0
        for letter in word:
            row = self._rows[row][place_of(letter)]
        return row

    def path(self, row):
        """The least word that leads from 0 to ROW."""
        self._check_closed()
        if not is_between(row, 0, len(self._rows) - 1):
            raise NoRow("no number of a row")
        letters = []
        while row != 0:
            row, letter = self._whence[row]
            letters.append(letter)
        return tuple(letters[::-1])

    def trace(self):
        """All that was done, in its order."""
        return self._trace

    def __len__(self):
        self._check_closed()
        return len(self._rows)

    def _check_closed(self):
        if not self._closed:
            raise StillOpen("the cosets aren't closed")


def _check_subs(subs, many):
    if not isinstance(subs, tuple) or len(subs) > MOST_SUBS:
        raise NoWord("no tuple of at most eight words")
    for word in subs:
        check_word(word, many)
