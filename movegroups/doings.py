"""Doings: moves of cosets, one for each member, and what moves leave."""

from movegroups.errors import NoDoing, NoPoint
from movegroups.reach import all_reaches
from movegroups.rules import check_doing
from movegroups.subs import cosets
from movegroups.wholes import is_between


def doing_on(table, sub):
    """For each member a move of SUB's cosets: each is led to what its members and this one make."""
    parts = cosets(table, sub)
    place_of = {member: place for place, part in enumerate(parts) for member in part}
    firsts = [part[0] for part in parts]
    return tuple([tuple([place_of[table.lines[first][by]] for first in firsts]) for by in range(len(table.lines))])


def core(table, sub):
    """The SUB of all members whose move leaves all of SUB's cosets."""
    doing = doing_on(table, sub)
    return tuple([member for member, move in enumerate(doing) if move == doing[0]])


def stayed(doing):
    """How many points each move leaves."""
    _check_moves(doing)
    return tuple([len([point for point, image in enumerate(move) if point == image]) for move in doing])


def orbits_of(doing):
    """All orbits of the points by all moves, by their least points."""
    _check_moves(doing)
    return all_reaches(len(doing[0]), doing)


def holders(doing, point):
    """The numbers of all moves that leave POINT."""
    _check_moves(doing)
    if not is_between(point, 0, len(doing[0]) - 1):
        raise NoPoint("none of the points")
    return tuple([number for number, move in enumerate(doing) if move[point] == point])


def _check_moves(thing):
    if not isinstance(thing, tuple) or not thing:
        raise NoDoing("no tuple of moves")
    check_doing(thing, len(thing))
