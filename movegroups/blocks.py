"""Orbits and blocks of groups of moves, and groups of moves made of others."""

from movegroups.chains import Moves
from movegroups.errors import NoImages, NoPart, NoPoint, NoPoints
from movegroups.levels import Levels
from movegroups.moves import check_move, linked_moves, undone_move
from movegroups.reach import all_reaches
from movegroups.turning import check_group
from movegroups.wholes import is_between, is_rising


def orbits(group):
    """All orbits, by their least points."""
    check_group(group)
    return all_reaches(group.points, group.moves)


def blocks(group, one, other):
    """The finest parting of the points that the members keep, and in which ONE and OTHER are together."""
    check_group(group)
    for point in (one, other):
        if not is_between(point, 0, group.points - 1):
            raise NoPoint("none of the points")
    # For each point the least one of its part.
    least = list(range(group.points))
    further = [(one, other)]
    while further:
        first, second = further.pop()
        low, high = sorted([least[first], least[second]])
        if low != high:
            least = [low if each == high else each for each in least]
            further.extend([(move[first], move[second]) for move in group.moves])
    parts = {}
    for point, first in enumerate(least):
        parts.setdefault(first, []).append(point)
    return tuple([tuple(part) for part in parts.values()])


def stabilizer(group, points):
    """The Moves of the members that leave each of POINTS."""
    check_group(group)
    if not is_rising(points, group.points):
        raise NoImages("no rising tuple of points")
    # The levels go by the points in their turn: so the ones to be left are brought ahead, and back.
    ahead = points + tuple([point for point in range(group.points) if point not in points])
    levels = Levels(group.points, _conjugates(group.moves, undone_move(ahead)))
    return _told(group.points, _conjugates(levels.makers_behind(len(points)), ahead))


def renamed(group, move):
    """The Moves of all of MOVE undone, a member, MOVE."""
    check_group(group)
    check_move(move)
    if len(move) != group.points:
        raise NoPoints("a move of other many points")
    return _told(group.points, _conjugates(group.moves, move))


def united(one, other):
    """The Moves that the members of both make."""
    _check_groups(one, other)
    return _told(one.points, one.moves + other.moves)


def is_part(one, other):
    """Whether all members of ONE are members of OTHER."""
    _check_groups(one, other)
    return _is_part(one, other)


def closure(one, other):
    """The least part of ONE that has the members of OTHER, and that ONE's members lead to itself."""
    check_group(one)
    check_group(other)
    if one.points != other.points or not _is_part(other, one):
        raise NoPart(other)
    levels = Levels(one.points, other.moves)
    further = list(other.moves)
    while further:
        made = further.pop()
        for by in one.moves:
            led = _conjugate(made, by)
            if not levels.has(led):
                levels.make_by(led)
                further.append(led)
    return _told_by(one.points, levels)


def _check_groups(one, other):
    check_group(one)
    check_group(other)
    if one.points != other.points:
        raise NoPoints("groups of unlike many points")


def _is_part(one, other):
    return all([other.has(move) for move in one.moves])


def _conjugate(move, by):
    return linked_moves(undone_move(by), linked_moves(move, by))


def _conjugates(moves, by):
    return [_conjugate(move, by) for move in moves]


def _told(points, moves):
    """The Moves of what MOVES make, as it is told: however many they are."""
    return _told_by(points, Levels(points, moves))


def _told_by(points, levels):
    """The Moves of the members of LEVELS, by those of its strong moves that the ones ahead don't make."""
    made = Levels(points, ())
    kept = []
    for move in levels.strong():
        if made.make_by(move):
            kept.append(move)
    return Moves(points, tuple(kept))
