"""The house's papers: true claims, each with a paper by which the judge takes it."""

from movegroups.bounds import MOST, MOST_LISTED, MOST_PARTED, MOST_POINTS
from movegroups.cosets import Cosets
from movegroups.errors import NoGroup, StillOpen, TooGreat
from movegroups.levels import Levels
from movegroups.likeness import likeness
from movegroups.lists import groups_of
from movegroups.rules import check_rules
from movegroups.subs import subs
from movegroups.tables import check_table
from movegroups.turning import check_group
from movegroups.wholes import is_whole
from movegroups.words import check_word


def paper_member(group, move):
    """That MOVE is a member, or that it is none."""
    check_group(group)
    if group.has(move):
        return ("member", group.points, group.moves, move), group.recipe(move)
    return ("no member", group.points, group.moves, move), _levels(group)


def paper_order(group):
    """How many members there are."""
    check_group(group)
    return ("order", group.points, group.moves, group.order()), _levels(group)


def paper_index(cosets):
    """How many cosets there are."""
    if not isinstance(cosets, Cosets):
        raise NoGroup("no cosets")
    rules = cosets.rules
    return ("index", rules.letters, rules.rules, cosets.subs, cosets.index()), cosets.trace()


def paper_words(rules, one, other, *, most=MOST):
    """That two words are one in the group, or that they aren't."""
    check_rules(rules)
    check_word(one, len(rules.letters))
    check_word(other, len(rules.letters))
    cosets = Cosets(rules, (), most=most)
    if not cosets.closed() or cosets.index() > MOST_POINTS:
        raise StillOpen("the cosets of nothing aren't closed, or too many")
    if cosets.row_of(one) == cosets.row_of(other):
        return ("equal", rules.letters, rules.rules, one, other), cosets.trace()
    return ("apart", rules.letters, rules.rules, one, other), cosets.doing()


def paper_likeness(one, other):
    """That two tables are of one group, or that they aren't."""
    told = likeness(one, other)
    if told[0] == "map":
        return ("alike", one.lines, other.lines), told[1]
    return ("unlike", one.lines, other.lines), told[1] if told[0] == "count" else "search"


def paper_subs(table):
    """How many SUBs there are."""
    check_table(table)
    _check_most(len(table.lines), MOST_PARTED)
    return ("subs", table.lines, len(subs(table))), None


def paper_list(many):
    """Which groups of an order there are."""
    if is_whole(many):
        _check_most(many, MOST_LISTED)
    return ("list", many, tuple([table.lines for table in groups_of(many)])), None


def _levels(group):
    return Levels(group.points, group.moves).shown()


def _check_most(many, most):
    if many > most:
        raise TooGreat(many, most)
