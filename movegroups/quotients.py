"""Tables made of tables: of parts, of cosets, of pairs."""

from movegroups.bounds import MOST_ORDER
from movegroups.errors import NoNormal, TooGreat
from movegroups.members import check_sub
from movegroups.subs import cosets, is_normal
from movegroups.tables import Table, check_table


def sub_table(table, sub):
    """The Table of SUB's members, numbered as they rise."""
    check_table(table)
    check_sub(table, sub)
    number = {member: place for place, member in enumerate(sub)}
    return Table(tuple([tuple([number[table.lines[one][other]] for other in sub]) for one in sub]))


def quotient(table, sub):
    """The Table of the cosets of SUB, numbered by their least members, and the number of each member's coset."""
    check_table(table)
    check_sub(table, sub)
    if not is_normal(table, sub):
        raise NoNormal("no normal part")
    parts = cosets(table, sub)
    number = {member: place for place, part in enumerate(parts) for member in part}
    firsts = [part[0] for part in parts]
    lines = tuple([tuple([number[table.lines[one][other]] for other in firsts]) for one in firsts])
    return Table(lines), tuple([number[member] for member in range(len(table.lines))])


def product(one, other):
    """The Table of all pairs of a member of ONE and a member of OTHER."""
    check_table(one)
    check_table(other)
    many = len(one.lines) * len(other.lines)
    if many > MOST_ORDER:
        raise TooGreat(many, MOST_ORDER)
    return Table(tuple([_pairs_line(ahead, behind) for ahead in one.lines for behind in other.lines]))


def _pairs_line(ahead, behind):
    return tuple([first * len(behind) + second for first in ahead for second in behind])
