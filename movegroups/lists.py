"""All groups of an order, each once."""

from movegroups.bounds import MOST_SEARCHED, PRIMES
from movegroups.errors import NoNumber, TooGreat
from movegroups.extensions import extended
from movegroups.likeness import counts, least_map, likeness
from movegroups.maps import autos
from movegroups.tables import Table, check_table
from movegroups.wholes import is_whole


def groups_of(many):
    """Tables of MANY members: each group of this order is alike just one of them."""
    if not is_whole(many) or many < 1:
        raise NoNumber("no number of members")
    if many > MOST_SEARCHED:
        raise TooGreat(many, MOST_SEARCHED)
    if many == 1:
        return (Table(((0,),)),)
    found = Found()
    for prime in PRIMES:
        if many % prime == 0:
            for table in groups_of(many // prime):
                _extend(table, prime, found)
    return tuple(found.tables)


def named(table):
    """The place of the group among all of its order, and the least map from TABLE to that one."""
    check_table(table)
    told = [likeness(table, each) for each in groups_of(len(table.lines))]
    place = [each[0] for each in told].index("map")
    return place, told[place][1]


class Found:
    """Tables of which none is alike another one."""

    def __init__(self):
        self.tables = []
        # Only those whose counts are alike may be alike.
        self._by_counts = {}
        self._met = {}

    def take(self, lines):
        """Take the Table of LINES in, if it is alike none."""
        if lines in self._met:
            return
        self._met[lines] = True
        table = Table(lines)
        some = self._by_counts.setdefault(counts(table), [])
        if all([least_map(table, each) is None for each in some]):
            some.append(table)
            self.tables.append(table)


def _extend(table, prime, found):
    """Let FOUND take in each extension of TABLE by PRIME."""
    for auto in autos(table):
        for member in range(len(auto)):
            lines = extended(table.lines, auto, member, prime)
            if lines is not None:
                found.take(lines)
