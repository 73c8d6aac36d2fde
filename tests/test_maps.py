import itertools
import math
import unittest

from movegroups.errors import NoMap, NoTable, TooGreat
from movegroups.maps import autos, homs, image, is_hom, kernel
from movegroups.tables import Table

from tests.kit import NUMBERS, ODD, TEXTS, by_place_and_name, just, refused
from tests.lines import (
    FOUR, GREAT_TABLES, KNOWN, TABLES, TWO, closed, cyclic, homs_by_hand, is_sub, keeps, named, paired, renamed)
from tests.test_subs import THREE
from tests.wrong import NO_TABLES, refuse_tables

SMALL = [table for table in TABLES if len(table) <= 6]
# Whether moves of three points are odd: by their ranks.
ODDNESS = (0, 1, 1, 0, 0, 1)
NO_IMAGES = [
    list(ODDNESS), ODDNESS[:5], ODDNESS + (0,), (), (0,), (0, 1, 1, 0, 0, 2), (0, 1, 1, 0, 0, -1), (0, True, 1, 0, 0, 1),
    (False, 1, 1, 0, 0, 1), (0, 1, 1, 0, 0, None), (0, 1, 1, 0, 0, "1"), (0, 1, 1, 0, 0, (1,)), (1, 1, 1, 1, 1, 1),
    (0, 1, 0, 1, 1, 0), (0, 0, 0, 1, 1, 0), (0, 1, 1, 0, 1, 0), (1, 0, 0, 1, 1, 0), "011001", {0: 0}, (0, 1, 1, 0, 0, 10 ** 39),
]
AUTOS = {
    "cyclic 1": 1, "cyclic 2": 1, "cyclic 5": 4, "cyclic 7": 6, "cyclic 8": 4, "cyclic 11": 10, "cyclic 12": 4, "four": 6,
    "dihedral 6": 6, "dihedral 8": 8, "dicyclic 8": 24, "twos": 168, "four and two": 8, "threes": 48, "dihedral 10": 20,
    "dihedral 12": 12, "dicyclic 12": 12, "twelve": 24, "six and two": 12,
}


class HomTest(unittest.TestCase):
    """[23]"""

    def test_is_hom_by_hand(self):
        pairs = [(one, other) for one in SMALL for other in SMALL if len(one) <= 4 and len(other) <= 4]
        for one, other in pairs:
            for images in itertools.product(range(len(other)), repeat=len(one)):
                just(self, is_hom(one, other, images), keeps(one.lines, other.lines, images))

    def test_is_hom_of_great_ones(self):
        for table in TABLES + GREAT_TABLES:
            just(self, is_hom(table, table, tuple(range(len(table)))), True)
            just(self, is_hom(table, table, (0,) * len(table)), True)
            just(self, is_hom(table, Table(cyclic(1)), (0,) * len(table)), True)
            just(self, is_hom(table, Table(TWO), (1,) * len(table)), False)
            just(self, is_hom(Table(cyclic(1)), table, (0,)), True)
        just(self, is_hom(Table(cyclic(48)), Table(cyclic(48)), tuple(5 * one % 48 for one in range(48))), True)
        just(self, is_hom(Table(cyclic(48)), Table(cyclic(48)), tuple(range(47)) + (46,)), False)

    def test_is_hom_of_any_kind(self):
        just(self, is_hom(THREE, Table(TWO), ODDNESS), True)
        for thing in NO_IMAGES + ODD + TEXTS + NUMBERS:
            just(self, is_hom(THREE, Table(TWO), thing), False)
            just(self, is_hom(Table(cyclic(1)), Table(cyclic(1)), thing), thing == (0,) and repr(thing) == "(0,)")

    def test_is_hom_refused(self):
        refuse_tables(self, is_hom, Table(TWO), ODDNESS)
        for thing in NO_TABLES:
            self.assertIsNone(refused(self, NoTable, is_hom, THREE, thing, ODDNESS).fault)
            self.assertIsNone(refused(self, NoTable, is_hom, THREE, thing, None).fault)
        just(self, by_place_and_name(self, is_hom, one=THREE, other=Table(TWO), images=ODDNESS), True)

    def test_kernel_and_image_by_hand(self):
        for one, other in itertools.product(SMALL, repeat=2):
            for images in homs(one, other):
                just(self, kernel(one, other, images), tuple(at for at in range(len(one)) if images[at] == 0))
                just(self, image(one, other, images), tuple(at for at in range(len(other)) if at in images))
                self.assertTrue(is_sub(one.lines, kernel(one, other, images)))
                self.assertTrue(is_sub(other.lines, image(one, other, images)))

    def test_kernel_and_image_of_known_groups(self):
        just(self, kernel(THREE, Table(TWO), ODDNESS), (0, 3, 4))
        just(self, image(THREE, Table(TWO), ODDNESS), (0, 1))
        great = Table(cyclic(48)), Table(cyclic(36)), tuple(30 * one % 36 for one in range(48))
        just(self, kernel(*great), tuple(range(0, 48, 6)))
        just(self, image(*great), tuple(range(0, 36, 6)))

    def test_no_map(self):
        for call in (kernel, image):
            refuse_tables(self, call, Table(TWO), ODDNESS)
            for thing in NO_TABLES:
                self.assertIsNone(refused(self, NoTable, call, THREE, thing, ODDNESS).fault)
                self.assertIsNone(refused(self, NoTable, call, THREE, thing, None).fault)
            for thing in NO_IMAGES + ODD + TEXTS + NUMBERS:
                refused(self, NoMap, call, THREE, Table(TWO), thing)
        just(self, by_place_and_name(self, kernel, one=THREE, other=Table(TWO), images=ODDNESS), (0, 3, 4))
        just(self, by_place_and_name(self, image, one=THREE, other=Table(TWO), images=ODDNESS), (0, 1))


class HomsTest(unittest.TestCase):
    """[23]"""

    def test_through_all_tuples(self):
        for one, other in itertools.product(SMALL, repeat=2):
            if len(other) ** len(one) < 20000:
                just(self, homs(one, other), homs_by_hand(one.lines, other.lines))

    def test_autos_through_all_tuples(self):
        for table in [table for table in TABLES if len(table) <= 8]:
            tuples = [(0,) + images for images in itertools.permutations(range(1, len(table)))]
            just(self, autos(table), tuple(images for images in tuples if keeps(table.lines, table.lines, images)))

    def test_by_leading_members(self):
        # By hand: a map is settled by the images of members that generate all; they are found by going on from 0.
        for one, other in itertools.product(TABLES[::2] + TABLES[1::4], TABLES[::3]):
            if 6 < len(one) <= 12 and len(other) <= 12:
                just(self, homs(one, other), by_generating_members(one.lines, other.lines))

    def test_known_many(self):
        for one, other in itertools.product(range(1, 13), repeat=2):
            self.assertEqual(len(homs(Table(cyclic(one)), Table(renamed(cyclic(other), 23)))), math.gcd(one, other))
        just(self, len(homs(named("twos"), named("twos"))), 512)
        just(self, len(homs(named("twos"), Table(TWO))), 8)
        just(self, len(homs(named("twelve"), named("twelve"))), 33)
        just(self, homs(THREE, Table(TWO)), ((0, 0, 0, 0, 0, 0), ODDNESS))
        just(self, homs(Table(TWO), THREE), ((0, 0), (0, 1), (0, 2), (0, 5)))
        just(self, homs(Table(cyclic(1)), THREE), ((0,),))
        just(self, homs(THREE, Table(cyclic(1))), ((0, 0, 0, 0, 0, 0),))
        for name, many in AUTOS.items():
            for table in (named(name), Table(renamed(KNOWN[name], 24))):
                just(self, len(autos(table)), many)
        just(self, autos(Table(FOUR)), tuple((0,) + images for images in itertools.permutations((1, 2, 3))))
        just(self, autos(Table(cyclic(1))), ((0,),))

    def test_rising_and_once(self):
        for one, other in itertools.product(TABLES[::3], TABLES[1::3]):
            if len(one) <= 12 and len(other) <= 12:
                told = homs(one, other)
                self.assertEqual(list(told), sorted(set(told)))
                self.assertTrue(all(is_hom(one, other, images) for images in told))
        for table in [table for table in TABLES if len(table) <= 12]:
            told = autos(table)
            self.assertEqual(list(told), sorted(set(told)))
            just(self, told, tuple(images for images in homs(table, table) if len(set(images)) == len(table)))

    def test_too_great(self):
        for many in (13, 14, 24, 48):
            great, small = Table(cyclic(many)), Table(cyclic(12))
            for one, other in [(great, small), (small, great), (great, Table(cyclic(47)))]:
                error = refused(self, TooGreat, homs, one, other)
                just(self, (error.many, error.most), (many, 12))
            error = refused(self, TooGreat, autos, great)
            just(self, (error.many, error.most), (many, 12))
        error = refused(self, TooGreat, homs, Table(cyclic(13)), Table(cyclic(14)))
        just(self, (error.many, error.most), (13, 12))
        error = refused(self, TooGreat, homs, Table(cyclic(14)), Table(cyclic(13)))
        just(self, (error.many, error.most), (14, 12))

    def test_refused(self):
        refuse_tables(self, homs, Table(TWO))
        refuse_tables(self, homs, Table(cyclic(13)))
        refuse_tables(self, autos)
        for thing in NO_TABLES:
            self.assertIsNone(refused(self, NoTable, homs, Table(TWO), thing).fault)
            # By arguments from the left, of one as they are told: ONE is no Table, ONE is too great, then OTHER.
            just(self, refused(self, TooGreat, homs, Table(cyclic(13)), thing).many, 13)
        just(self, by_place_and_name(self, homs, one=Table(TWO), other=Table(TWO)), ((0, 0), (0, 1)))
        just(self, by_place_and_name(self, autos, table=Table(TWO)), ((0, 1),))


def by_generating_members(lines, others):
    """All maps that keep what two make, by the images of the last members that generate all."""
    some = []
    for one in reversed(range(len(lines))):
        if one not in closed(lines, some):
            some.append(one)
    found = []
    for led in itertools.product(range(len(others)), repeat=len(some)):
        images, further = {0: 0}, [0]
        while further:
            one = further.pop()
            for member, to in zip(some, led):
                if lines[one][member] not in images:
                    images[lines[one][member]] = others[images[one]][to]
                    further.append(lines[one][member])
        images = tuple(images[one] for one in range(len(lines)))
        if keeps(lines, others, images):
            found.append(images)
    return tuple(sorted(found))


class PairedTest(unittest.TestCase):
    """[21] and [23] agree: a product has its parts for kernels and images."""

    def test_product_leads_to_its_parts(self):
        table = Table(paired(THREE.lines, TWO))
        just(self, is_hom(table, THREE, tuple(one // 2 for one in range(12))), True)
        just(self, kernel(table, THREE, tuple(one // 2 for one in range(12))), (0, 1))
        just(self, kernel(table, Table(TWO), (0, 1) * 6), tuple(range(0, 12, 2)))


if __name__ == "__main__":
    unittest.main()
