import itertools
import unittest

from movegroups.errors import NoExtension, NoMap, NoMember, NoPrime, TooGreat
from movegroups.extensions import extension
from movegroups.likeness import likeness
from movegroups.maps import autos
from movegroups.tables import Table

from tests.kit import NUMBERS, ODD, TEXTS, by_place_and_name, just, refused
from tests.lines import FOUR, TABLES, TWO, back_of, cyclic, dicyclic, dihedral, made, named, paired, renamed, turned
from tests.test_subs import THREE
from tests.wrong import no_members, refuse_tables

PRIMES = [2, 3, 5, 7, 11, 13, 17, 19, 23, 29, 31, 37, 41, 43, 47]
NO_PRIMES = [0, 1, 4, 6, 8, 9, 15, 21, 25, 27, 33, 35, 39, 45, 46, 48, 49, 53, 59, -1, -2, -3, 10 ** 39, (2,), [2], "2"] + ODD + TEXTS
ONE, FIVE = Table(cyclic(1)), Table(cyclic(5))
# Of five members: none of these leads each to one, both ways, so that what two make is kept.
NO_AUTOS = [
    None, [0, 1, 2, 3, 4], (0, 1, 2, 3), (0, 1, 2, 3, 4, 0), (0, 0, 0, 0, 0), (0, 1, 2, 4, 3), (1, 2, 3, 4, 0), (0, 1, 1, 3, 4), (0, 1, 2, 3, 5),
    (0, 1, 2, 3, -1), (0, True, 2, 3, 4), (False, 1, 2, 3, 4), (), (0,), "01234", {0: 0}, (0, 1, 2, 3, None), (0, 1, 2, 3, (4,)), range(5),
] + ODD + TEXTS + NUMBERS


def stay(table):
    return tuple(range(len(table)))


def done(auto, times):
    told = tuple(range(len(auto)))
    for _ in range(times):
        told = tuple(auto[image] for image in told)
    return told


def by_hand(table, auto, member, prime):
    """The lines that the document tells; None where there is no extension."""
    lines, many = table.lines, len(table)
    inner = tuple(made(lines, member, one, back_of(lines, member)) for one in range(many))
    if auto[member] != member or done(auto, prime) != inner:
        return None
    told = [[None] * (many * prime) for _ in range(many * prime)]
    for a, j, b, k in itertools.product(range(many), range(prime), range(many), range(prime)):
        both = made(lines, a, done(auto, j)[b])
        times = j + k
        if times >= prime:
            both, times = made(lines, both, member), times - prime
        told[j * many + a][k * many + b] = times * many + both
    return tuple(tuple(row) for row in told)


class ExtensionTest(unittest.TestCase):
    """[22]"""

    def test_of_one_member(self):
        for prime in PRIMES:
            just(self, extension(ONE, (0,), 0, prime).lines, cyclic(prime))

    def test_by_hand(self):
        for table in TABLES:
            if len(table) <= 8:
                for prime in [prime for prime in (2, 3, 5, 7) if prime * len(table) <= 24]:
                    for auto in autos(table)[:12]:
                        for member in range(len(table)):
                            lines = by_hand(table, auto, member, prime)
                            if lines is None:
                                refused(self, NoExtension, extension, table, auto, member, prime)
                            else:
                                told = extension(table, auto, member, prime)
                                self.assertIs(type(told), Table)
                                just(self, told.lines, lines)

    def test_known_groups(self):
        back = (0, 4, 3, 2, 1)
        just(self, extension(FIVE, back, 0, 2).lines, dihedral(5))
        just(self, extension(FIVE, (0, 1, 2, 3, 4), 0, 2).lines, turned(5, 1, 2))
        just(self, extension(Table(cyclic(6)), (0, 5, 4, 3, 2, 1), 3, 2).lines, dicyclic(3))
        just(self, extension(Table(cyclic(7)), (0, 2, 4, 6, 1, 3, 5), 0, 3).lines, turned(7, 2, 3))
        just(self, extension(Table(TWO), (0, 1), 1, 2).lines, ((0, 1, 2, 3), (1, 0, 3, 2), (2, 3, 1, 0), (3, 2, 0, 1)))
        just(self, extension(Table(TWO), (0, 1), 0, 2).lines, FOUR)
        just(self, likeness(extension(Table(FOUR), (0, 2, 3, 1), 0, 3), named("twelve"))[0], "map")

    def test_members_but_0_for_the_member(self):
        # By a member that isn't in the centre the map must not be rest.
        auto = tuple(made(THREE.lines, 1, one, 1) for one in range(6))
        told = extension(THREE, auto, 1, 3)
        just(self, told.lines, by_hand(THREE, auto, 1, 3))
        self.assertNotEqual(auto, stay(THREE))
        refused(self, NoExtension, extension, THREE, stay(THREE), 1, 3)
        refused(self, NoExtension, extension, THREE, auto, 0, 3)
        auto = tuple(made(THREE.lines, 4, one, 3) for one in range(6))
        just(self, extension(THREE, auto, 3, 2).lines, by_hand(THREE, auto, 3, 2))
        refused(self, NoExtension, extension, THREE, auto, 4, 2)

    def test_what_the_extension_keeps(self):
        for auto, member in [((0, 3, 2, 1), 0), ((0, 3, 2, 1), 2), ((0, 1, 2, 3), 1), ((0, 1, 2, 3), 0)]:
            table = Table(cyclic(4))
            lines = extension(table, auto, member, 2).lines
            just(self, made(lines, *[4] * 2), member)
            for one in range(4):
                # The back of (0, 1) leads by conjugates as AUTO does.
                just(self, made(lines, 4, one, back_of(lines, 4)), auto[one])

    def test_of_forty_eight(self):
        for table in [Table(cyclic(24)), Table(renamed(dihedral(12), 22)), Table(paired(FOUR, cyclic(6)))]:
            just(self, extension(table, stay(table), 0, 2).lines, by_hand(table, stay(table), 0, 2))
        just(self, len(extension(Table(cyclic(16)), stay(cyclic(16)), 5, 3)), 48)
        just(self, len(extension(ONE, (0,), 0, 47)), 47)

    def test_no_table(self):
        refuse_tables(self, extension, (0,), 0, 2)
        refuse_tables(self, extension, (0, 0), 7, 4)

    def test_no_map(self):
        for thing in NO_AUTOS:
            refused(self, NoMap, extension, FIVE, thing, 0, 2)
            refused(self, NoMap, extension, FIVE, thing, 5, 4)
            refused(self, NoMap, extension, FIVE, thing, None, 47)
        for images in [(0, 1, 1, 0), (0, 2, 0, 2), (0, 0, 0, 0)]:
            # They keep what two make, but don't lead on all.
            refused(self, NoMap, extension, Table(cyclic(4)), images, 0, 2)

    def test_no_member(self):
        for thing in no_members(5):
            refused(self, NoMember, extension, FIVE, stay(FIVE), thing, 2)
            refused(self, NoMember, extension, FIVE, stay(FIVE), thing, 4)
            refused(self, NoMember, extension, FIVE, stay(FIVE), thing, 47)

    def test_no_prime(self):
        for thing in NO_PRIMES:
            refused(self, NoPrime, extension, FIVE, stay(FIVE), 0, thing)
            refused(self, NoPrime, extension, FIVE, (0, 2, 4, 1, 3), 1, thing)
            refused(self, NoPrime, extension, Table(cyclic(48)), stay(cyclic(48)), 0, thing)

    def test_too_great(self):
        for many, prime in [(7, 7), (25, 2), (17, 3), (10, 5), (2, 29), (48, 2), (48, 47), (2, 47), (5, 11)]:
            table = Table(cyclic(many))
            for member in (0, 1):
                error = refused(self, TooGreat, extension, table, stay(table), member, prime)
                just(self, (error.many, error.most), (many * prime, 48))
        # Ahead of NoExtension.
        error = refused(self, TooGreat, extension, FIVE, (0, 2, 4, 1, 3), 1, 11)
        just(self, (error.many, error.most), (55, 48))

    def test_no_extension(self):
        refused(self, NoExtension, extension, FIVE, (0, 4, 3, 2, 1), 1, 2)
        refused(self, NoExtension, extension, FIVE, (0, 4, 3, 2, 1), 0, 3)
        refused(self, NoExtension, extension, FIVE, (0, 2, 4, 1, 3), 0, 2)
        refused(self, NoExtension, extension, Table(cyclic(4)), (0, 3, 2, 1), 1, 2)

    def test_by_place_and_by_name(self):
        self.assertEqual(by_place_and_name(self, extension, table=Table(TWO), auto=(0, 1), member=0, prime=2), Table(FOUR))


if __name__ == "__main__":
    unittest.main()
