"""The members of a table: what they make, their orders, classes, and who goes along with them."""

from movegroups.errors import NoMember, NoNumber, NoPart, NoSub
from movegroups.tables import check_table
from movegroups.wholes import is_between, is_rising, is_whole


def check_member(table, thing):
    """Refuse what is no member of TABLE."""
    if not _is_member(table, thing):
        raise NoMember("no member of the table")


def check_part(table, thing):
    """Refuse what is no rising tuple of unlike members of TABLE."""
    if not _is_part(table, thing):
        raise NoPart(thing)


def check_sub(table, thing):
    """Refuse what is no part with 0 that has what two of it make."""
    if not _is_part(table, thing) or 0 not in thing:
        raise NoSub(thing)
    for one in thing:
        if not all([table.lines[one][other] in thing for other in thing]):
            raise NoSub(thing)


def times(table, one, other):
    """What ONE and OTHER make."""
    check_table(table)
    check_member(table, one)
    check_member(table, other)
    return table.lines[one][other]


def back(table, one):
    """The member with which ONE makes 0."""
    check_table(table)
    check_member(table, one)
    return table.lines[one].index(0)


def power(table, one, many):
    """ONE, MANY times; below 0 its back, as often."""
    check_table(table)
    check_member(table, one)
    if not is_whole(many):
        raise NoNumber("no whole number of times")
    made = 0
    # A member, as often as there are members, makes 0: so no number is too great.
    for _ in range(many % len(table.lines)):
        made = table.lines[made][one]
    return made


def order_of(table, one):
    """The least number from 1 on by which the power of ONE is 0."""
    check_table(table)
    check_member(table, one)
    return _order(table.lines, one)


def commutator(table, one, other):
    """The back of ONE, the back of OTHER, ONE, OTHER."""
    check_table(table)
    check_member(table, one)
    check_member(table, other)
    return commutated(table.lines, one, other)


def conjugate(table, one, by):
    """The back of BY, ONE, BY."""
    check_table(table)
    check_member(table, one)
    check_member(table, by)
    return conjugated(table.lines, one, by)


def commutated(lines, one, other):
    """As commutator, of members that need no look."""
    return lines[lines[lines[one].index(0)][lines[other].index(0)]][lines[one][other]]


def conjugated(lines, one, by):
    """As conjugate, of members that need no look."""
    return lines[lines[lines[by].index(0)][one]][by]


def orders(table):
    """How many members have each order that there is, rising."""
    check_table(table)
    found = {}
    for one in range(len(table.lines)):
        order = _order(table.lines, one)
        found[order] = found.get(order, 0) + 1
    return tuple(sorted(found.items()))


def classes(table):
    """All parts of members that are conjugates of one another, by their least members."""
    check_table(table)
    all_of = range(len(table.lines))
    met = {}
    found = []
    for one in all_of:
        if one not in met:
            part = sorted({conjugated(table.lines, one, by) for by in all_of})
            found.append(tuple(part))
            met.update({member: True for member in part})
    return tuple(found)


def centralizer(table, part):
    """All members that make the same with each of PART either way about."""
    check_table(table)
    check_part(table, part)
    return _centralizer(table.lines, part)


def normalizer(table, part):
    """All members by which the conjugates of PART's members are in PART."""
    check_table(table)
    check_part(table, part)
    lines = table.lines
    return tuple([by for by in range(len(lines)) if all([conjugated(lines, one, by) in part for one in part])])


def centre(table):
    """All members that make the same with each member either way about."""
    check_table(table)
    return _centralizer(table.lines, tuple(range(len(table.lines))))


def _is_member(table, thing):
    return is_between(thing, 0, len(table.lines) - 1)


def _is_part(table, thing):
    return is_rising(thing, len(table.lines))


def _order(lines, one):
    order = 1
    made = one
    while made != 0:
        made = lines[made][one]
        order += 1
    return order


def _centralizer(lines, part):
    return tuple([one for one in range(len(lines)) if all([lines[one][other] == lines[other][one] for other in part])])
