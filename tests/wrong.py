"""What no Table, member, PART, SUB or map is, and how all of a module's calls refuse it."""

from movegroups.errors import NoMember, NoPart, NoSub, NoTable
from movegroups.rules import Rules
from movegroups.tables import Table

from tests.kit import NUMBERS, ODD, TEXTS, refused
from tests.lines import FOUR, cyclic

NO_TABLES = [FOUR, [list(line) for line in FOUR], ((0,),), Rules(("a",), ()), Table, 10 ** 39, "table: 0"] + ODD + TEXTS + [1, 4]


def no_members(order):
    """Things that are no member of a table of this order."""
    return [order, order + 1, -1, -order, 10 ** 39, -10 ** 39, (0,), [0], "0", "one"] + ODD + TEXTS


def no_parts(order):
    """Things that are no PART of a table of this order."""
    told = [
        [], [0], [0, 1], {0}, {}, "", "0", "01", b"", range(1), frozenset(), (0, 0), (1, 0), (0, 1, 1), (order,), (-1,),
        (0, order), (-1, 0), (True,), (False,), (False, 1), (0, True), (0, None), ("0",), ((0,),), (0, (1,)),
        tuple(range(order + 1)), tuple(range(order))[::-1] + (0,)]
    return told + ODD + TEXTS + NUMBERS


def refuse_tables(case, call, *others, **named):
    """CALL refuses what is no Table in its first place, whatever stands behind."""
    for thing in NO_TABLES:
        case.assertIsNone(refused(case, NoTable, call, thing, *others, **named).fault)
        case.assertIsNone(refused(case, NoTable, call, thing, *[None for _ in others], **named).fault)


def refuse_members(case, call, *behind):
    """CALL refuses what is no member behind a Table, whatever stands behind it; BEHIND are fitting ones."""
    for order in (1, 5, 48):
        for thing in no_members(order):
            refused(case, NoMember, call, Table(cyclic(order)), thing, *behind)
            refused(case, NoMember, call, Table(cyclic(order)), thing, *[None for _ in behind])


def refuse_parts(case, call):
    """CALL refuses what is no PART behind a Table."""
    for order in (1, 5, 48):
        for thing in no_parts(order):
            case.assertIs(refused(case, NoPart, call, Table(cyclic(order)), thing).what, thing)


def refuse_subs(case, call, orders=(1, 6, 48), **named):
    """CALL refuses what is no SUB behind a Table."""
    for order in orders:
        for thing in no_parts(order) + [()]:
            case.assertIs(refused(case, NoSub, call, Table(cyclic(order)), thing, **named).what, thing)
    for thing in [(1,), (2, 4), (0, 1), (0, 2), (0, 2, 3, 4), (0, 1, 2, 3, 4), (1, 2, 3, 4, 5)]:
        case.assertIs(refused(case, NoSub, call, Table(cyclic(6)), thing, **named).what, thing)
