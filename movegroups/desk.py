"""A desk that keeps a library and answers rows of words."""

from movegroups.errors import NoOrder
from movegroups.judge import holds
from movegroups.language import show_group
from movegroups.library import Library
from movegroups.likeness import likeness
from movegroups.lists import named
from movegroups.papers import paper_likeness
from movegroups.wholes import read_whole

# How many words at least, and whether more may follow.
ROWS = {
    "keep": (3, True), "anew": (3, True), "part": (4, True), "strike": (2, False), "back": (1, False),
    "names": (1, False), "order": (2, False), "orders": (2, False), "alike": (3, False), "named": (2, False),
    "telling": (2, False), "paper": (3, False),
}


class Desk:
    """A Library, and rows by which it is told and asked."""

    def __init__(self):
        self._library = Library()

    def say(self, row):
        """The answer to ROW."""
        word, *told = _words(row)
        if word == "back":
            self._library.back()
            return "ok"
        if word == "names":
            return " ".join(self._library.names()) or "none"
        if word in ("keep", "anew", "part", "strike"):
            return self._changed(word, told)
        if word in ("alike", "paper"):
            return self._compared(word, told)
        return self._asked(word, told[0])

    def _changed(self, word, told):
        if word == "strike":
            return " ".join(self._library.strike(told[0]))
        if word == "part":
            return _numbers(self._library.part(told[0], told[1], _members(told[2:])))
        text = " ".join(told[1:])
        if word == "keep":
            return str(self._library.keep(told[0], text))
        return str(len(self._library.anew(told[0], text)))

    def _compared(self, word, told):
        one, other = self._library.table(told[0]), self._library.table(told[1])
        if word == "paper":
            claim, paper = paper_likeness(one, other)
            return "holds" if holds(claim, paper) else "no"
        found = likeness(one, other)
        if found[0] == "map":
            return "alike"
        return "unlike search" if found[0] == "search" else f"unlike {found[1]}"

    def _asked(self, word, name):
        if word == "order":
            return str(self._library.asked("order", name))
        if word == "orders":
            return " ".join([f"{order}:{many}" for order, many in self._library.asked("orders", name)])
        if word == "named":
            table = self._library.table(name)
            place, _ = named(table)
            return f"{len(table)}.{place}"
        return show_group(self._library.telling(name))


def _words(row):
    """The words of ROW, of any kind; refused where it isn't one of the desk's, so written."""
    if not isinstance(row, str):
        raise NoOrder("no text")
    words = row.split(" ")
    if "" in words or words[0] not in ROWS:
        raise NoOrder("no row of the desk")
    many, more = ROWS[words[0]]
    if len(words) < many or (len(words) > many and not more):
        raise NoOrder("too few words, or too many")
    return words


def _members(words):
    members = tuple([read_whole(word) for word in words])
    if None in members:
        raise NoOrder("no numbers of members")
    return members


def _numbers(numbers):
    return " ".join([str(number) for number in numbers])
