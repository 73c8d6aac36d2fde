"""The refusals, in three families."""


class GroupError(ValueError):
    """What was handed in isn't as told."""


class NoNumber(GroupError):
    """No whole number within the bounds told."""


class NoMove(GroupError):
    """No move."""


class NoPoints(GroupError):
    """Moves or groups of unlike many points."""


class NoText(GroupError):
    """No text of the kind that is read; PLACE says where."""

    def __init__(self, place):
        super().__init__("no text of the kind that is read")
        self.place = place


class NoRecipe(GroupError):
    """No recipe; PLACE is that of the first step that is none, or None."""

    def __init__(self, place):
        super().__init__("no recipe")
        self.place = place


class NoMoves(GroupError):
    """No tuple of moves; PLACE is that of the first that is none, or None."""

    def __init__(self, place):
        super().__init__("no tuple of moves")
        self.place = place


class NoPoint(GroupError):
    """None of the points."""


class NoImages(GroupError):
    """No tuple of unlike points."""


class NoMember(GroupError):
    """No member of the group."""


class NoPart(GroupError):
    """No part of the members; WHAT is what was handed in."""

    def __init__(self, what):
        super().__init__("no part of the members")
        self.what = what


class NoSub(GroupError):
    """No part that is a group of its own; WHAT is what was handed in."""

    def __init__(self, what):
        super().__init__("no part that is a group of its own")
        self.what = what


class NoWord(GroupError):
    """No word by the letters."""


class NoLetters(GroupError):
    """No tuple of one to six unlike small letters."""


class NoRules(GroupError):
    """No rules; PLACE is that of the first word that is none, or None."""

    def __init__(self, place):
        super().__init__("no rules")
        self.place = place


class NoDoing(GroupError):
    """No tuple of moves that fits."""


class NoRow(GroupError):
    """No number of a row."""


class NoPairs(GroupError):
    """No pairs of words whose second is less."""


class NoTable(GroupError):
    """No table of a group; FAULT says why, or is None."""

    def __init__(self, fault):
        super().__init__("no table of a group")
        self.fault = fault


class NoGroup(GroupError):
    """No group told in a way that fits."""


class NoNormal(GroupError):
    """A part that isn't normal."""


class NoMap(GroupError):
    """No map that keeps what two make."""


class NoPrime(GroupError):
    """No prime within the bounds told."""


class NoExtension(GroupError):
    """No extension by what was handed in."""


class NoLikeness(GroupError):
    """Groups that aren't alike."""


class NoName(GroupError):
    """No name of one to eight small letters."""


class NoOrder(GroupError):
    """No row that the desk knows."""


class LostError(LookupError):
    """What was asked for isn't there."""


class NoSuch(LostError):
    """Nothing of this NAME is there."""

    def __init__(self, name):
        super().__init__("nothing of this name is there")
        self.name = name


class LimitError(ArithmeticError):
    """What was asked for is beyond a bound."""


class StillOpen(LimitError):
    """Not settled within the bounds told."""


class NoLarge(LimitError):
    """More rows than a move has points."""


class TooGreat(LimitError):
    """MANY members, where MOST are the most."""

    def __init__(self, many, most):
        super().__init__("more members than the most")
        self.many = many
        self.most = most


class Taken(LimitError):
    """Something of this NAME is there."""

    def __init__(self, name):
        super().__init__("something of this name is there")
        self.name = name


class NoBack(LimitError):
    """No deed that could be taken back."""
