"""Maps from a table to another one that keep what two make."""

from movegroups.bounds import MOST_MAPPED
from movegroups.errors import NoMap, TooGreat
from movegroups.tables import check_table
from movegroups.ways import Ways
from movegroups.wholes import is_between


def is_hom(one, other, images):
    """Whether IMAGES, of any kind, has one of OTHER for each member of ONE, and keeps what two make."""
    check_table(one)
    check_table(other)
    return _keeps(one.lines, other.lines, images)


def check_hom(one, other, images):
    """Refuse what is no map from ONE to OTHER that keeps what two make."""
    if not is_hom(one, other, images):
        raise NoMap("no map that keeps what two make")


def kernel(one, other, images):
    """All members of ONE that are led to 0."""
    check_hom(one, other, images)
    return tuple([member for member, led in enumerate(images) if led == 0])


def image(one, other, images):
    """All members of OTHER to which one is led."""
    check_hom(one, other, images)
    return tuple(sorted(set(images)))


def homs(one, other):
    """All maps from ONE to OTHER that keep what two make, rising."""
    _check_order(one)
    _check_order(other)
    anyone = tuple(range(len(other.lines)))
    return _tuples(Ways(one, other, [anyone] * len(one.lines), False))


def autos(table):
    """All maps of TABLE on itself that keep what two make, with as many images as members, rising."""
    _check_order(table)
    anyone = tuple(range(len(table.lines)))
    return _tuples(Ways(table, table, [anyone] * len(table.lines), True))


def _tuples(ways):
    return tuple([tuple(images) for images in ways.told(False)])


def _check_order(table):
    check_table(table)
    if len(table.lines) > MOST_MAPPED:
        raise TooGreat(len(table.lines), MOST_MAPPED)


def _keeps(lines, others, images):
    if not isinstance(images, tuple) or len(images) != len(lines):
        return False
    if not all([is_between(member, 0, len(others) - 1) for member in images]):
        return False
    for one, line in enumerate(lines):
        led = others[images[one]]
        if [images[made] for made in line] != [led[member] for member in images]:
            return False
    return True
