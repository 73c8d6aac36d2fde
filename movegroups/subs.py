"""The parts of a table that are groups of their own."""

from movegroups.bounds import MOST_SEARCHED
from movegroups.errors import TooGreat
from movegroups.members import check_part, check_sub, conjugated
from movegroups.tables import check_table


def generated(table, part):
    """The least SUB that has PART."""
    check_table(table)
    check_part(table, part)
    return spanned(table.lines, part)


def leading(table):
    """From () on always the least member that the SUB generated so far hasn't."""
    check_table(table)
    found = []
    sub = (0,)
    while len(sub) < len(table.lines):
        found.append([one for one in range(len(table.lines)) if one not in sub][0])
        sub = spanned(table.lines, found)
    return tuple(found)


def cosets(table, sub, *, left=False):
    """All parts of what SUB's members make with one member behind them, or ahead, by their least members."""
    check_table(table)
    check_sub(table, sub)
    lines = table.lines
    met = {}
    found = []
    for one in range(len(lines)):
        if one not in met:
            part = sorted([lines[one][other] if left else lines[other][one] for other in sub])
            found.append(tuple(part))
            met.update({member: True for member in part})
    return tuple(found)


def is_normal(table, sub):
    """Whether SUB's cosets are the same, its members ahead or behind."""
    return cosets(table, sub) == cosets(table, sub, left=True)


def subs(table):
    """All SUBs, the shorter ones first, of a length rising."""
    _check_order(table)
    met = {(0,): True}
    further = [(0,)]
    while further:
        sub = further.pop()
        for one in range(len(table.lines)):
            greater = spanned(table.lines, sub + (one,))
            if greater not in met:
                met[greater] = True
                further.append(greater)
    return tuple(sorted(list(met), key=_length_first))


def kinds_of_subs(table):
    """All SUBs that are made of one another by conjugates together, in the order of their first ones."""
    _check_order(table)
    met = {}
    found = []
    for sub in subs(table):
        if sub not in met:
            kind = sorted({_conjugated_part(table.lines, sub, by) for by in range(len(table.lines))})
            found.append(tuple(kind))
            met.update({each: True for each in kind})
    return tuple(found)


def normal_subs(table):
    """All SUBs that are normal, the shorter ones first, of a length rising."""
    return tuple([sub for sub in subs(table) if is_normal(table, sub)])


def spanned(lines, part):
    """The least SUB that has the members PART, in whatever turn they are."""
    met = [False] * len(lines)
    met[0] = True
    further = [0]
    # Backs come of themselves, since each is made by its member alone, often enough.
    while further:
        line = lines[further.pop()]
        for other in part:
            if not met[line[other]]:
                met[line[other]] = True
                further.append(line[other])
    return tuple([one for one in range(len(lines)) if met[one]])


def _check_order(table):
    check_table(table)
    if len(table.lines) > MOST_SEARCHED:
        raise TooGreat(len(table.lines), MOST_SEARCHED)


def _length_first(sub):
    return (len(sub), sub)


def _conjugated_part(lines, sub, by):
    return tuple(sorted([conjugated(lines, one, by) for one in sub]))
