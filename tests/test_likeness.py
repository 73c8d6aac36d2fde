import itertools
import unittest

from movegroups.errors import NoTable
from movegroups.likeness import counts, likeness
from movegroups.maps import autos, is_hom
from movegroups.members import centre, classes, order_of, orders
from movegroups.quotients import product, sub_table
from movegroups.series import derived_series
from movegroups.tables import Table

from tests.kit import by_place_and_name, just, refused
from tests.lines import GREAT, GREAT_TABLES, KNOWN, TABLES, TWO, cyclic, keeps, named, paired, renamed
from tests.test_subs import THREE
from tests.wrong import NO_TABLES, refuse_tables

ALL = TABLES + GREAT_TABLES
WORDS = ("order", "orders", "classes", "centre", "derived")
# Two unlike groups whose counts are all alike: turned rounds of four, and the eight with a two beside it.
SEARCH = [("four by four", "eight and two")]


def least_by_hand(one, other):
    """The least map both ways that keeps what two make, by going through all; None where there is none."""
    for images in itertools.permutations(range(1, len(one))):
        if keeps(one.lines, other.lines, (0,) + images):
            return (0,) + images
    return None


class CountsTest(unittest.TestCase):
    """[24]"""

    def test_known_groups(self):
        just(self, counts(Table(cyclic(1))), (1, ((1, 1),), ((1, 1),), ((1, 1),), (1,)))
        just(self, counts(THREE), (6, ((1, 1), (2, 3), (3, 2)), ((1, 1), (2, 3), (3, 2)), ((1, 1),), (6, 3, 1)))
        just(self, counts(named("dihedral 8")), (
            8, ((1, 1), (2, 5), (4, 2)), ((1, 1), (2, 1), (2, 2), (2, 2), (4, 2)), ((1, 1), (2, 1)), (8, 2, 1)))
        just(self, counts(named("dicyclic 8")), (
            8, ((1, 1), (2, 1), (4, 6)), ((1, 1), (2, 1), (4, 2), (4, 2), (4, 2)), ((1, 1), (2, 1)), (8, 2, 1)))
        just(self, counts(named("twenty-four")), (
            24, ((1, 1), (2, 9), (3, 8), (4, 6)), ((1, 1), (2, 3), (2, 6), (3, 8), (4, 6)), ((1, 1),), (24, 12, 4, 1)))
        just(self, counts(named("four and two")), (
            8, ((1, 1), (2, 3), (4, 4)), ((1, 1), (2, 1), (2, 1), (2, 1), (4, 1), (4, 1), (4, 1), (4, 1)), ((1, 1), (2, 3), (4, 4)), (8, 1)))
        just(self, counts(Table(cyclic(48)))[4], (48, 1))

    def test_by_the_other_parts(self):
        for table in ALL:
            kinds = tuple(sorted((order_of(table, part[-1]), len(part)) for part in classes(table)))
            just(self, counts(table), (
                len(table), orders(table), kinds, orders(sub_table(table, centre(table))), tuple(map(len, derived_series(table)))))

    def test_alike_where_members_are_called_otherwise(self):
        for lines in list(KNOWN.values()) + list(GREAT.values()):
            just(self, counts(Table(renamed(lines, 3))), counts(Table(lines)))

    def test_refused(self):
        refuse_tables(self, counts)
        just(self, by_place_and_name(self, counts, table=Table(TWO))[0], 2)


class LikenessTest(unittest.TestCase):
    """[24]"""

    def test_least_map_of_small_ones(self):
        for one, other in itertools.product([table for table in TABLES if len(table) <= 7], repeat=2):
            if len(one) == len(other):
                least = least_by_hand(one, other)
                told = likeness(one, other)
                just(self, told if told[0] == "map" else None, None if least is None else ("map", least))

    def test_least_map_by_all_autos(self):
        # All maps both ways from one to another are one such and, behind it, an auto: so the least one is known.
        for name, lines in KNOWN.items():
            if len(lines) <= 12:
                one, other = Table(renamed(lines, 101)), Table(renamed(lines, 102))
                word, images = likeness(one, other)
                self.assertEqual(word, "map")
                self.assertTrue(keeps(one.lines, other.lines, images), name)
                just(self, images, min(tuple(auto[image] for image in images) for auto in autos(other)))

    def test_map_of_all(self):
        for lines in list(KNOWN.values()) + list(GREAT.values()):
            for one, other in [(lines, renamed(lines, 7)), (renamed(lines, 8), lines), (renamed(lines, 9), renamed(lines, 10))]:
                word, images = likeness(Table(one), Table(other))
                just(self, word, "map")
                just(self, is_hom(Table(one), Table(other), images), True)
                just(self, sorted(images), list(range(len(lines))))

    def test_of_itself_it_is_rest_or_less(self):
        for table in ALL:
            word, images = likeness(table, table)
            just(self, word, "map")
            self.assertLessEqual(images, tuple(range(len(table))))
        just(self, likeness(Table(cyclic(5)), Table(cyclic(5))), ("map", (0, 1, 2, 3, 4)))
        just(self, likeness(THREE, THREE), ("map", (0, 1, 2, 3, 4, 5)))
        just(self, likeness(Table(cyclic(1)), Table(cyclic(1))), ("map", (0,)))

    def test_first_count_that_differs(self):
        met = set()
        known = [(table, counts(table)) for table in TABLES[:len(KNOWN)]]
        for (one, first), (other, second) in itertools.product(known, repeat=2):
            if len(one) != len(other) and (len(one) + len(other)) % 5:
                continue
            told = likeness(one, other)
            if first == second:
                self.assertIn(told[0], ("map", "search"))
            else:
                at = [left == right for left, right in zip(first, second)].index(False)
                just(self, told, ("count", WORDS[at], first[at], second[at]))
                met.add(WORDS[at])
        just(self, sorted(met), ["classes", "order", "orders"])

    def test_counts_of_known_groups(self):
        just(self, likeness(Table(cyclic(4)), THREE), ("count", "order", 4, 6))
        just(self, likeness(THREE, Table(cyclic(4))), ("count", "order", 6, 4))
        just(self, likeness(Table(cyclic(4)), Table(paired(TWO, TWO))), ("count", "orders", ((1, 1), (2, 1), (4, 2)), ((1, 1), (2, 3))))
        first, second = named("eight by two"), named("cyclic 16")
        told = likeness(Table(paired(cyclic(8), TWO)), first)
        just(self, told, ("count", "classes", counts(Table(paired(cyclic(8), TWO)))[2], counts(first)[2]))
        just(self, likeness(second, first)[1], "orders")

    def test_centre_is_never_the_first(self):
        # Its members are the classes of one member: so what differs there differs among the classes.
        for table in ALL:
            ones = [order for order, length in counts(table)[2] if length == 1]
            just(self, counts(table)[3], tuple((order, ones.count(order)) for order in sorted(set(ones))))

    def test_search(self):
        for first, second in SEARCH:
            pairs = [(named(first), named(second)), (named(second), named(first))]
            pairs += [(Table(renamed(KNOWN[first], seed)), Table(renamed(KNOWN[second], seed))) for seed in range(5)]
            for beside in (2, 3):
                pairs.append((product(named(first), Table(cyclic(beside))), product(named(second), Table(cyclic(beside)))))
                pairs.append((product(Table(cyclic(beside)), named(second)), product(named(first), Table(cyclic(beside)))))
            for one, other in pairs:
                just(self, counts(one), counts(other))
                just(self, likeness(one, other), ("search",))

    def test_by_hand_no_map_where_a_search_told_so(self):
        # In the one all members, twice, are three ones together, in the other one two.
        twice = [{table.lines[one][one] for one in range(16)} for table in map(named, SEARCH[0])]
        just(self, [len(met) for met in twice], [3, 2])

    def test_refused(self):
        refuse_tables(self, likeness, Table(TWO))
        for thing in NO_TABLES:
            self.assertIsNone(refused(self, NoTable, likeness, Table(TWO), thing).fault)
        just(self, by_place_and_name(self, likeness, one=Table(TWO), other=Table(cyclic(1))), ("count", "order", 2, 1))


if __name__ == "__main__":
    unittest.main()
