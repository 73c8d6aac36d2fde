import itertools
import unittest

from movegroups.errors import NoNumber, NoTable, TooGreat
from movegroups.likeness import counts, likeness
from movegroups.lists import groups_of, named
from movegroups.maps import autos
from movegroups.tables import Table

from tests.kit import ODD, TEXTS, by_place_and_name, just, refused
from tests.lines import FOUR, KNOWN, TABLES, TWO, called, cyclic, dihedral, keeps, named as known, renamed
from tests.test_extensions import by_hand
from tests.wrong import NO_TABLES, refuse_tables

# How many groups there are of the orders 1 to 24.
MANY = (1, 1, 1, 2, 1, 2, 1, 5, 2, 2, 1, 5, 1, 2, 1, 14, 1, 5, 1, 5, 2, 2, 1, 15)
ALL = {many: groups_of(many) for many in range(1, 25)}


def listed_by_hand(many):
    """All groups of this order, in the turn that the document tells, of those of less order as they are told."""
    found, met = {}, set()
    for prime in [prime for prime in (2, 3, 5, 7, 11, 13, 17, 19, 23) if many % prime == 0]:
        for table in ALL[many // prime]:
            for auto, member in itertools.product(autos(table), range(many // prime)):
                lines = by_hand(table, auto, member, prime)
                if lines is not None and lines not in met:
                    met.add(lines)
                    some = [other for other in found if found[other] == counts(Table(lines))]
                    if all(likeness(Table(lines), Table(other))[0] != "map" for other in some):
                        found[lines] = counts(Table(lines))
    return tuple(found)


class GroupsOfTest(unittest.TestCase):
    """[25], [3]: each once, none lacking."""

    def test_how_many(self):
        just(self, tuple(len(ALL[many]) for many in range(1, 25)), MANY)

    def test_tables(self):
        for many, tables in ALL.items():
            self.assertIs(type(tables), tuple)
            for table in tables:
                self.assertIs(type(table), Table)
                just(self, len(table), many)

    def test_no_two_alike(self):
        for tables in ALL.values():
            for one, other in itertools.combinations(tables, 2):
                self.assertNotEqual(likeness(one, other)[0], "map")

    def test_none_lacking_of_known_ones(self):
        for lines in KNOWN.values():
            alike = [likeness(Table(lines), table)[0] == "map" for table in ALL[len(lines)]]
            just(self, alike.count(True), 1)

    def test_none_lacking_of_six(self):
        # All tables of up to six members, by going through all ways to fill them.
        for many in range(1, 7):
            for lines in filled(many):
                alike = [likeness(Table(lines), table)[0] == "map" for table in ALL[many]]
                just(self, alike.count(True), 1)

    def test_in_this_turn(self):
        for many in range(2, 25):
            just(self, tuple(table.lines for table in ALL[many]), listed_by_hand(many))

    def test_first_ones(self):
        just(self, ALL[1][0].lines, ((0,),))
        just(self, ALL[2][0].lines, TWO)
        just(self, [table.lines for table in ALL[4]], [FOUR, ((0, 1, 2, 3), (1, 0, 3, 2), (2, 3, 1, 0), (3, 2, 0, 1))])
        just(self, ALL[23][0].lines, cyclic(23))
        just(self, [counts(table)[1] for table in ALL[8]], [
            ((1, 1), (2, 7)), ((1, 1), (2, 3), (4, 4)), ((1, 1), (2, 5), (4, 2)), ((1, 1), (2, 1), (4, 2), (8, 4)), ((1, 1), (2, 1), (4, 6))])

    def test_told_again(self):
        for many in (1, 8, 12, 21):
            told = groups_of(many)
            groups_of(16)
            just(self, [table.lines for table in groups_of(many)], [table.lines for table in told])

    def test_refused(self):
        for thing in [0, -1, -24, -10 ** 39] + ODD + TEXTS:
            refused(self, NoNumber, groups_of, thing)
        for many in (25, 26, 48, 49, 10 ** 39):
            error = refused(self, TooGreat, groups_of, many)
            just(self, (error.many, error.most), (many, 24))
        self.assertEqual(by_place_and_name(self, groups_of, many=3), (Table(cyclic(3)),))


def filled(many):
    """The lines of all groups of MANY numbers with 0 the neutral one, filled in from the front on."""
    found = []

    def further(lines):
        if len(lines) == many:
            if all(lines[lines[a][b]][c] == lines[a][lines[b][c]] for a, b, c in itertools.product(range(many), repeat=3)):
                found.append(tuple(lines))
            return
        rest = [number for number in range(many) if number != len(lines)]
        for line in itertools.permutations(rest):
            line = (len(lines),) + line
            if all(line[place] != other[place] for other in lines for place in range(many)):
                further(lines + [line])

    further([tuple(range(many))])
    return found


class NamedTest(unittest.TestCase):
    """[25]"""

    def test_known_tables(self):
        for table in TABLES[::3]:
            place, images = named(table)
            other = ALL[len(table)][place]
            just(self, likeness(table, other), ("map", images))
            self.assertTrue(keeps(table.lines, other.lines, images))

    def test_itself(self):
        for many in (1, 2, 4, 6, 8, 12, 18, 20):
            for place, table in enumerate(ALL[many]):
                just(self, named(table), (place, likeness(table, table)[1]))

    def test_called_otherwise(self):
        for many in (4, 6, 8, 10, 16, 24):
            for place, table in list(enumerate(ALL[many]))[::2]:
                lines = renamed(table.lines, place)
                just(self, named(Table(lines)), (place, likeness(Table(lines), table)[1]))
        just(self, named(Table(called(cyclic(3), [0, 2, 1]))), (0, (0, 1, 2)))

    def test_places(self):
        just(self, named(Table(cyclic(1))), (0, (0,)))
        just(self, named(Table(FOUR)), (0, (0, 1, 2, 3)))
        just(self, named(Table(cyclic(4))), (1, (0, 2, 1, 3)))
        just(self, [named(known(name))[0] for name in ("twos", "four and two", "dihedral 8", "cyclic 8", "dicyclic 8")], [0, 1, 2, 3, 4])

    def test_refused(self):
        refuse_tables(self, named)
        for thing in NO_TABLES:
            self.assertIsNone(refused(self, NoTable, named, thing).fault)
        for lines in (cyclic(25), cyclic(48), dihedral(24)):
            error = refused(self, TooGreat, named, Table(lines))
            just(self, (error.many, error.most), (len(lines), 24))
        just(self, by_place_and_name(self, named, table=Table(TWO)), (0, (0, 1)))


if __name__ == "__main__":
    unittest.main()
