"""Whether two tables are of one group: by counts, and by a search for a map."""

from movegroups.members import centre, classes, order_of, orders
from movegroups.quotients import sub_table
from movegroups.series import derived_series
from movegroups.tables import check_table
from movegroups.ways import Ways

WORDS = ("order", "orders", "classes", "centre", "derived")


def counts(table):
    """The order, the orders, those of the classes with lengths, the centre's orders, the derived series' lengths."""
    check_table(table)
    kinds = sorted([(order_of(table, part[0]), len(part)) for part in classes(table)])
    lengths = [len(sub) for sub in derived_series(table)]
    return len(table.lines), orders(table), tuple(kinds), orders(sub_table(table, centre(table))), tuple(lengths)


def likeness(one, other):
    """The least map both ways, or the first count that differs, or the word that the search has none."""
    check_table(one)
    check_table(other)
    for word, first, second in zip(WORDS, counts(one), counts(other)):
        if first != second:
            return ("count", word, first, second)
    images = least_map(one, other)
    return ("search",) if images is None else ("map", images)


def least_map(one, other):
    """The least map both ways from ONE to OTHER, whose counts are alike; None where there is none."""
    ways = Ways(one, other, _of_one_order(one, other), True).told(True)
    return tuple(ways[0]) if ways else None


def _of_one_order(one, other):
    """For each member of ONE all members of OTHER that have its order."""
    found = {}
    for member in range(len(other.lines)):
        found.setdefault(order_of(other, member), []).append(member)
    return [found[order_of(one, member)] for member in range(len(one.lines))]
