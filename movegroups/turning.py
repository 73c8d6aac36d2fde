"""One telling of a group turned into another one."""

from movegroups.bounds import MOST, MOST_ORDER
from movegroups.chains import Moves
from movegroups.cosets import Cosets
from movegroups.errors import NoGroup, TooGreat
from movegroups.moves import linked_moves, rest
from movegroups.rules import Rules
from movegroups.subs import leading
from movegroups.tables import Table
from movegroups.words import backed, letter_at, linked, place_of

NAMES = ("a", "b", "c", "d", "e")


def check_group(thing):
    """Refuse what is no Moves."""
    if not isinstance(thing, Moves):
        raise NoGroup("no group of moves")


def table_of(group):
    """The Table of the members of a Moves, by their ranks."""
    check_group(group)
    _check_order(group.order())
    members = [group.member(rank) for rank in range(group.order())]
    ranks = {move: rank for rank, move in enumerate(members)}
    return Table(tuple([tuple([ranks[linked_moves(one, other)] for other in members]) for one in members]))


def moves_of(table):
    """The Moves of the table's members, as points, by the moves of the leading ones."""
    moves = _moves(table)
    return Moves(len(table.lines), moves)


def table_of_rules(rules, *, most=MOST):
    """The Table of the rows of the Cosets of nothing: A and B make where the path of B leads from A."""
    cosets = Cosets(rules, (), most=most)
    _check_order(cosets.index())
    rows = cosets.rows()
    paths = [cosets.path(row) for row in range(len(rows))]
    return Table(tuple([tuple([_gone(rows, row, path) for path in paths]) for row in range(len(rows))]))


def rules_of(table):
    """The Rules by a letter for each leading member, that tell what each member and each letter make."""
    leaders = leading(table)
    if not leaders:
        return Rules(("a",), ((1,),))
    paths = _paths(table.lines, leaders)
    # () tells nothing.
    there = {(): True}
    rules = []
    for member, path in enumerate(paths):
        for place, leader in enumerate(leaders):
            rule = linked(path + (place + 1,), backed(paths[table.lines[member][leader]]))
            if rule not in there:
                there[rule] = True
                rules.append(rule)
    return Rules(NAMES[:len(leaders)], tuple(rules))


def doing_of(table):
    """The moves of moves_of, one for each letter of rules_of."""
    moves = _moves(table)
    return moves if moves else (rest(1),)


def _check_order(many):
    if many > MOST_ORDER:
        raise TooGreat(many, MOST_ORDER)


def _moves(table):
    """For each leading member the move that leads each member to what it and the leading one make."""
    leaders = leading(table)
    return tuple([tuple([line[leader] for line in table.lines]) for leader in leaders])


def _gone(rows, row, word):
    for letter in word:
        row = rows[row][place_of(letter)]
    return row


def _paths(lines, leaders):
    """For each member the least word that leads there from 0, by a letter for each of LEADERS."""
    paths = [None] * len(lines)
    paths[0] = ()
    met = [0]
    at = 0
    while at < len(met):
        member = met[at]
        for place in range(2 * len(leaders)):
            letter = letter_at(place)
            made = _by_letter(lines, leaders, member, letter)
            if paths[made] is None:
                paths[made] = paths[member] + (letter,)
                met.append(made)
        at += 1
    return paths


def _by_letter(lines, leaders, member, letter):
    if letter > 0:
        return lines[member][leaders[letter - 1]]
    return lines[member][lines[leaders[-letter - 1]].index(0)]
