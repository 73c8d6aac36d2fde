"""Moves of points: tuples of images."""

from math import lcm

from movegroups.bounds import MOST_POINTS
from movegroups.errors import NoMove, NoMoves, NoNumber, NoPoints, NoText
from movegroups.wholes import is_between, is_whole


def is_move(thing):
    """Whether THING, of any kind, is a move."""
    if not isinstance(thing, tuple) or not 1 <= len(thing) <= MOST_POINTS:
        return False
    last = len(thing) - 1
    if not all([is_between(image, 0, last) for image in thing]):
        return False
    return len(set(thing)) == len(thing)


def check_move(thing):
    """Refuse what is no move."""
    if not is_move(thing):
        raise NoMove("no move")


def check_points(points):
    """Refuse what is no number of points."""
    if not is_between(points, 1, MOST_POINTS):
        raise NoNumber("no number of points")


def check_moves(thing, points):
    """Refuse what is no tuple of moves of POINTS."""
    if not isinstance(thing, tuple):
        raise NoMoves(None)
    for place, move in enumerate(thing):
        if not is_move(move) or len(move) != points:
            raise NoMoves(place)


def rest(points):
    """The move that leaves all points."""
    check_points(points)
    return tuple(range(points))


def then(one, other):
    """The move ONE, then the move OTHER."""
    check_move(one)
    check_move(other)
    if len(one) != len(other):
        raise NoPoints("moves of unlike many points")
    return linked_moves(one, other)


def undo(one):
    """The move that leads each image back."""
    check_move(one)
    return undone_move(one)


def raised(one, times):
    """The move done TIMES times; below 0 its undoing, as often."""
    check_move(one)
    if not is_whole(times):
        raise NoNumber("no whole number of times")
    images = [0] * len(one)
    # Within its round a point goes on by TIMES: so no number is too great.
    for row in _all_rounds(one):
        for place, point in enumerate(row):
            images[point] = row[(place + times) % len(row)]
    return tuple(images)


def turns(one):
    """The least number from 1 on by which the move, raised, is rest."""
    check_move(one)
    many = 1
    for row in _all_rounds(one):
        many = lcm(many, len(row))
    return many


def rounds(one):
    """The rounds of two points or more, each from its least point on."""
    check_move(one)
    return tuple([row for row in _all_rounds(one) if len(row) > 1])


def sign(one):
    """1, or -1 where the points less all rounds are odd."""
    check_move(one)
    return -1 if (len(one) - len(_all_rounds(one))) % 2 else 1


def show_move(one):
    """The rounds of the move as a text."""
    return "".join([_show_round(row) for row in rounds(one)]) or "()"


def read_move(text, points):
    """The move of POINTS that show_move shows as TEXT."""
    check_points(points)
    move = _parsed(text, points)
    if move is None or show_move(move) != text:
        raise NoText(0)
    return move


def linked_moves(one, other):
    """As then, of moves that need no look."""
    return tuple([other[image] for image in one])


def undone_move(one):
    """As undo, of a move that needs no look."""
    points = [0] * len(one)
    for point, image in enumerate(one):
        points[image] = point
    return tuple(points)


def _all_rounds(one):
    """All rounds, those of one point too, by their least points."""
    met = [False] * len(one)
    found = []
    for point in range(len(one)):
        row = []
        at = point
        while not met[at]:
            met[at] = True
            row.append(at)
            at = one[at]
        if row:
            found.append(tuple(row))
    return found


def _show_round(row):
    return "(" + " ".join([str(point) for point in row]) + ")"


def _parsed(text, points):
    """The move of rounds in TEXT, however they are put; None where there is none."""
    if not isinstance(text, str) or not (text.startswith("(") and text.endswith(")")):
        return None
    images = list(range(points))
    if text == "()":
        return tuple(images)
    # Names instead of int(..), which takes signs of other scripts, too.
    named = {str(point): point for point in range(points)}
    for part in text[1:-1].split(")("):
        words = part.split(" ")
        if not all([word in named for word in words]):
            return None
        for place, word in enumerate(words):
            images[named[words[place - 1]]] = named[word]
    move = tuple(images)
    return move if is_move(move) else None
