import itertools
import random
import unittest

from movegroups.errors import NoTable
from movegroups.tables import Table, fault

from tests.kit import NUMBERS, ODD, TEXTS, Loud, by_place_and_name, just, refused
from tests.lines import cyclic, lines_of
from tests.test_leasts import DOINGS


def by_hand(lines):
    """The fault of lines that have the form."""
    all_of = range(len(lines))
    for one in all_of:
        if lines[0][one] != one or lines[one][0] != one:
            return ("neutral", one)
    for one in all_of:
        if all(lines[one][other] != 0 for other in all_of):
            return ("back", one)
    for a, b, c in itertools.product(all_of, repeat=3):
        if lines[lines[a][b]][c] != lines[a][lines[b][c]]:
            return ("threes", a, b, c)
    return None


def changed(lines, one, other, number):
    rows = [list(line) for line in lines]
    rows[one][other] = number
    return tuple(tuple(row) for row in rows)


TWO = ((0, 1), (1, 0))
THREE = cyclic(3)
NO_FORMS = [
    (), ((),), [], [[0]], ([0],), [(0,)], ((0,), (0,)), ((0, 1), (1,)), ((0, 1),), ((0, 1), (1, 0), (0, 1)), ((0, 1), [1, 0]),
    ([0, 1], (1, 0)), [(0, 1), (1, 0)], ((0, 1), (1, 2)), ((0, 1), (1, -1)), ((0, -1), (1, 0)), ((0, True), (True, 0)),
    ((False, 1), (1, 0)), ((0, 1), (1, False)), ((False,),), ((1,),), ((-1,),), ((None,),), (("0",),), ("0",), ("01", "10"), (0,), (0, 1),
    ((0, 1), None), (None, (0, 1)), ((0, 1), (1, 10 ** 39)), ((0, 1, 2), (1, 2, 0), (2, 0, 3)), ((0, 1), (1, (0,))), {0: (0,)},
    ((0, 1, 2), (1, 2, 0), (2, 0)), ((0, 1, 2), (1, 2, 0), (2, 0, 1, 0)), cyclic(49), cyclic(50), b"\x00", Table(TWO),
]


class FaultTest(unittest.TestCase):
    def test_none(self):
        for many in (1, 2, 3, 7, 47, 48):
            self.assertIsNone(fault(cyclic(many)))
        for name in ("one", "four", "turns of three", "turns of four", "eight", "twelve", "twenty-four"):
            self.assertIsNone(fault(lines_of(DOINGS[name])))

    def test_form(self):
        for thing in NO_FORMS + ODD + TEXTS + NUMBERS:
            just(self, fault(thing), ("form",))

    def test_neutral(self):
        just(self, fault(((1, 0), (0, 1))), ("neutral", 0))
        just(self, fault(((0, 0), (1, 0))), ("neutral", 1))
        just(self, fault(((0, 1), (0, 0))), ("neutral", 1))
        just(self, fault(changed(THREE, 0, 2, 1)), ("neutral", 2))
        just(self, fault(changed(THREE, 2, 0, 1)), ("neutral", 2))
        just(self, fault(changed(changed(THREE, 2, 0, 1), 0, 1, 0)), ("neutral", 1))
        just(self, fault(changed(cyclic(48), 0, 47, 46)), ("neutral", 47))

    def test_back(self):
        just(self, fault(((0, 1), (1, 1))), ("back", 1))
        just(self, fault(((0, 1, 2), (1, 1, 2), (2, 1, 2))), ("back", 1))
        just(self, fault(((0, 1, 2), (1, 0, 2), (2, 1, 2))), ("back", 2))
        # A line with 0 twice has a back; that a column lacks it is no matter here.
        just(self, fault(((0, 1, 2), (1, 0, 0), (2, 1, 1))), ("back", 2))

    def test_threes(self):
        just(self, fault(((0, 1, 2), (1, 0, 0), (2, 0, 0))), ("threes", 1, 1, 2))
        just(self, fault(((0, 1, 2), (1, 0, 2), (2, 1, 0))), ("threes", 1, 2, 1))

    def test_all_of_two_and_three_as_by_hand(self):
        for many in (1, 2, 3):
            for row in itertools.product(range(many), repeat=many * many):
                lines = tuple(row[at:at + many] for at in range(0, many * many, many))
                just(self, fault(lines), by_hand(lines))

    def test_changed_groups_as_by_hand(self):
        chance = random.Random(16)
        for name in ("four", "turns of three", "turns of four", "eight", "twelve"):
            lines = lines_of(DOINGS[name])
            for _ in range(60):
                places = [chance.randrange(len(lines)) for _ in range(3)]
                wrong = changed(lines, *places)
                just(self, fault(wrong), by_hand(wrong))

    def test_first_of_the_faults(self):
        just(self, fault(((0, 0), (0, 2))), ("form",))
        just(self, fault(((0, 0), (0, 1))), ("neutral", 1))
        just(self, fault(changed(changed(cyclic(5), 1, 4, 1), 2, 2, 0)), ("back", 1))

    def test_nothing_is_changed(self):
        thing = [[0, 1], [1, 0]]
        just(self, fault(thing), ("form",))
        just(self, thing, [[0, 1], [1, 0]])

    def test_by_place_and_by_name(self):
        just(self, by_place_and_name(self, fault, lines=((1,),)), ("form",))


class TableTest(unittest.TestCase):
    def test_values(self):
        for lines in [((0,),), TWO, THREE, cyclic(48), lines_of(DOINGS["twenty-four"])]:
            table = Table(lines)
            just(self, table.lines, lines)
            just(self, len(table), len(lines))
            just(self, repr(table), f"Table({len(lines)})")
            self.assertIs(bool(table), True)

    def test_refused_with_its_fault(self):
        for thing in NO_FORMS + ODD + TEXTS + NUMBERS:
            just(self, refused(self, NoTable, Table, thing).fault, ("form",))
        for lines in [
            ((1, 0), (0, 1)), ((0, 1), (1, 1)), ((0, 1, 2), (1, 0, 0), (2, 0, 0)), ((0, 1, 2), (1, 0, 2), (2, 1, 0)),
            changed(cyclic(48), 0, 47, 46), changed(cyclic(48), 47, 47, 0),
        ]:
            just(self, refused(self, NoTable, Table, lines).fault, by_hand(lines))

    def test_alike(self):
        self.assertIs(Table(THREE) == Table(cyclic(3)), True)
        self.assertIs(Table(THREE) != Table(cyclic(3)), False)
        four = Table(lines_of(DOINGS["four"]))
        for other in [Table(TWO), Table(cyclic(4)), four.lines, 4, "Table(4)", None, Loud()] + ODD + TEXTS:
            self.assertIs(four == other, False)
            self.assertIs(four != other, True)

    def test_by_place_and_by_name(self):
        self.assertEqual(by_place_and_name(self, Table, lines=TWO), Table(TWO))


if __name__ == "__main__":
    unittest.main()
