"""One language for all tellings of a group."""

from movegroups.bounds import MOST, MOST_MOVES, MOST_POINTS, MOST_RULES
from movegroups.chains import Moves
from movegroups.errors import NoGroup, NoText
from movegroups.moves import read_move, show_move
from movegroups.rules import Rules
from movegroups.tables import Table
from movegroups.turning import table_of, table_of_rules
from movegroups.wholes import read_whole
from movegroups.words import are_letters, read_word


def show_group(telling):
    """The telling, a Moves, a Rules or a Table, as a text."""
    if isinstance(telling, Moves):
        return _with_items(f"moves {telling.points}:", [show_move(move) for move in telling.moves])
    if isinstance(telling, Rules):
        return "rules " + str(telling)
    if isinstance(telling, Table):
        return "table: " + " / ".join([_show_line(line) for line in telling.lines])
    raise NoGroup("no telling of a group")


def read_group(text):
    """The telling that show_group shows as TEXT."""
    if not isinstance(text, str):
        raise NoText(0)
    head, _, tail = text.partition(":")
    word, _, told = head.partition(" ")
    if head == "table":
        return Table(_read_lines(tail))
    if word == "moves":
        telling = _read_moves(told, tail)
    elif word == "rules":
        telling = _read_rules(told, tail)
    else:
        raise NoText(0)
    if show_group(telling) != text:
        raise NoText(0)
    return telling


def group_of(telling, *, most=MOST):
    """The Table of the telling; MOST is looked at of Rules alone."""
    if isinstance(telling, Moves):
        return table_of(telling)
    if isinstance(telling, Rules):
        return table_of_rules(telling, most=most)
    if isinstance(telling, Table):
        return telling
    raise NoGroup("no telling of a group")


def _with_items(head, items):
    return head + " " + ", ".join(items) if items else head


def _show_line(line):
    return " ".join([str(number) for number in line])


def _items(tail, most):
    """The texts of at most MOST items behind the colon and whatever sign parts them."""
    items = tail[1:].split(", ") if tail else []
    if len(items) > most:
        raise NoText(0)
    return items


def _read_moves(told, tail):
    points = read_whole(told)
    if points is None or not 1 <= points <= MOST_POINTS:
        raise NoText(0)
    return Moves(points, tuple([read_move(item, points) for item in _items(tail, MOST_MOVES)]))


def _read_rules(told, tail):
    letters = tuple(told.split(" "))
    if not are_letters(letters):
        raise NoText(0)
    return Rules(letters, tuple([read_word(item, letters) for item in _items(tail, MOST_RULES)]))


def _read_lines(tail):
    if not tail.startswith(" "):
        raise NoText(0)
    lines = tuple([tuple([read_whole(word) for word in line.split(" ")]) for line in tail[1:].split(" / ")])
    for line in lines:
        if None in line:
            raise NoText(0)
    return lines
