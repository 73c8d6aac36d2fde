import itertools
import random
import unittest

from movegroups.chains import Moves
from movegroups.cosets import Cosets
from movegroups.errors import NoGroup, NoNumber, NoTable, NoText, StillOpen, TooGreat
from movegroups.language import group_of, read_group, show_group
from movegroups.rules import Rules
from movegroups.tables import Table
from movegroups.turning import table_of, table_of_rules

from tests.groups import KNOWN as KNOWN_RULES
from tests.groups import cyclic as cyclic_rules, known
from tests.kit import NUMBERS, ODD, TEXTS, by_place_and_name, just, refusal, refused
from tests.lines import FOUR, GREAT_TABLES, TABLES, TWO, cyclic
from tests.test_chains import ALL, SMALL, by_rounds, turn_of
from tests.test_turning import NO_MOST

NO_TELLINGS = [(1, 0), ((0,),), ((1, 0),), Moves, Table, Rules, Cosets(cyclic_rules(2)), 5, "moves 5:", "table: 0", "rules a:"]
NO_TELLINGS += ODD + TEXTS + NUMBERS
# By text: what it tells.
TOLD = {
    "moves 5: (0 1 2), (3 4)": Moves(5, ((1, 2, 0, 3, 4), (0, 1, 2, 4, 3))),
    "moves 5:": Moves(5, ()), "moves 1:": Moves(1, ()), "moves 1: ()": Moves(1, ((0,),)), "moves 60:": Moves(60, ()),
    "moves 3: (), (0 2), ()": Moves(3, ((0, 1, 2), (2, 1, 0), (0, 1, 2))), "moves 4: (0 1)(2 3)": Moves(4, ((1, 0, 3, 2),)),
    "moves 12: (0 10 11)(2 9)": Moves(12, ((10, 1, 9, 3, 4, 5, 6, 7, 8, 2, 11, 0),)),
    "rules a b: a^2, b^3": Rules(("a", "b"), ((1, 1), (2, 2, 2))), "rules a b:": Rules(("a", "b"), ()), "rules z:": Rules(("z",), ()),
    "rules a: 1": Rules(("a",), ((),)), "rules b a: b a^-1, 1, a^-2": Rules(("b", "a"), ((1, -2), (), (-2, -2))),
    "rules a b c d e f: f^-1 a": Rules(("a", "b", "c", "d", "e", "f"), ((-6, 1),)), "rules a: a^400": Rules(("a",), ((1,) * 400,)),
    "table: 0": Table(((0,),)), "table: 0 1 / 1 0": Table(TWO), "table: 0 1 2 / 1 2 0 / 2 0 1": Table(cyclic(3)),
    "table: 0 1 2 3 / 1 0 3 2 / 2 3 0 1 / 3 2 1 0": Table(FOUR),
}
# None of these is shown of anything.
NO_TEXTS = [
    "moves", "moves:", "moves :", "moves 5", "moves  5:", " moves 5:", "moves 5: ", "moves 5 :", "moves5:", "Moves 5:", "move 5:", "moves 05:",
    "moves 5::", "moves 5:\n", "moves 5:()", "moves 5:  ()", "moves 5: () ", "moves 5: (),()", "moves 5: () , ()", "moves 5: (), ", "moves 5: , ()",
    "moves 5: ();()", "moves 5: (0)", "moves 5: (1 0)", "moves 5: (2 3)(0 1)", "moves 5: (0 5)", "moves 5: (0 01)", "moves 5: (0 00)", "moves 5: (0,1)",
    "moves 5: (0 1", "moves 5: 0 1)", "moves 5: (0 1)(1 2)", "moves 5: (0 1) (2 3)", "moves 0:", "moves 61:", "moves -5:", "moves 5.0:", "moves x:",
    "moves \u0665:", "moves 5: (0 \u0661)", "moves 1_0:", "moves 10 :", "moves 5 5:", "moves 5, (0 1)", "moves 5: (0 1),(2 3)", "moves " + "9" * 5000 + ":",
    "moves 5: (1 2 0)", "moves 5: (0 1 2),  (3 4)", "moves 5: (0 1 2) (3 4)", "moves 5: (0 1 2), (3 4),", "moves 5: (0 1 2) / (3 4)",
    "rules", "rules:", "rules :", "rules : a", "rules a", "rules a :", "rules  a:", " rules a:", "rules a: ", "rules a:a", "rules a:  a", "rules a: a ",
    "rules a b:a^2", "rules a,b: a", "rules ab: a", "rules a a: a", "rules A: A", "rules a: b", "rules a: a^1", "rules a: a a", "rules a: a^02",
    "rules a: a^0", "rules a: a^-01", "rules a: a^+2", "rules a: a^401", "rules a: 1 a", "rules a: a 1", "rules a: 11", "rules a: a,a", "rules a: a, ",
    "rules a: , a", "rules a: a ,a", "rules a b c d e f g: a", "rules a: a^2^2", "rules a: a^", "rules a: ^2", "rules a: a-1", "rules a: A", "rule a: a",
    "rules 1: a", "rules \u00e4: \u00e4", "rules a: a / a", "rules a\u00a0b: a", "rules a b : a", "rules b a: a^-1b", "rules a: 0", "rules a: ()",
    "table", "table:", "table: ", "table:0", "table 0", "table:  0", " table: 0", "table: 0 ", "Table: 0", "table: 00", "table: 001", "table: -0",
    "table: +0", "table: 0.0", "table: 0,", "table: 0 1/ 1 0", "table: 0 1 /1 0", "table: 0 1/1 0", "table: 0 1  / 1 0", "table: 0 1 /  1 0",
    "table: 0 1 / 1  0", "table: 0  1 / 1 0", "table: 0 01 / 01 0", "table: 0 1 / 1 0 /", "table: 0 1 / 1 0 / ", "table: / 0", "table: 0 /", "table: /",
    "table:  / ", "table: 0 1 | 1 0", "table: 0 1, 1 0", "table: 0, 1 / 1, 0", "table: 0 x / x 0", "table: \u0660", "table: 0 1 \\ 1 0", "table 1: 0",
    "table: 0 1 / 1 0\n", "tables: 0", "table: 0 1 // 1 0", "table: 0 1 / / 1 0", "table: 0 1 / 1 -1", "table: 00 1 / 1 0", "table : 0", "table: (0)",
    "", ":", " ", "0", "()", "a: a", "moves 5: a", "rules a: (0 1)", "group 5:", "table: 0: 0", "moves 5: (0 1): ()", "rules a: a: a",
]
# Lines of numbers that are no table, and why.
NO_LINES = {
    "table: 1": ("form",), "table: 0 1": ("form",), "table: 0 / 1": ("form",), "table: 0 1 / 1": ("form",), "table: 0 / 1 0": ("form",),
    "table: 0 1 / 1 2": ("form",), "table: 0 1 2 / 1 2 0": ("form",), "table: 0 1 / 1 0 / 2 2": ("form",), "table: 5": ("form",),
    "table: 1 0 / 0 1": ("neutral", 0), "table: 0 1 / 0 1": ("neutral", 1), "table: 0 1 / 1 1": ("back", 1), "table: 0 0 / 1 1": ("neutral", 1),
    "table: 0 1 2 / 1 0 0 / 2 0 0": ("threes", 1, 1, 2), "table: " + "9" * 39: ("form",), "table: " + "7" * 5000: ("form",), "table: 60": ("form",),
}


def shown_by_hand(telling):
    if isinstance(telling, Table):
        return "table: " + " / ".join(" ".join(map(str, line)) for line in telling.lines)
    if isinstance(telling, Rules):
        return "rules " + str(telling)
    texts = []
    for move in telling.moves:
        text, met = "", set()
        for point in range(telling.points):
            row = []
            while point not in met:
                met.add(point)
                row.append(str(point))
                point = move[point]
            text += f"({' '.join(row)})" if len(row) > 1 else ""
        texts.append(text or "()")
    return f"moves {telling.points}:" + " " * bool(texts) + ", ".join(texts)


def same(case, one, other):
    """Both are told in just the same way."""
    case.assertIs(type(one), type(other))
    for value in ("points", "moves", "letters", "rules", "lines"):
        just(case, getattr(one, value, None), getattr(other, value, None))


class ShowTest(unittest.TestCase):
    """[27]"""

    def test_show(self):
        for text, telling in TOLD.items():
            just(self, show_group(telling), text)

    def test_show_by_hand(self):
        for telling in TABLES + GREAT_TABLES + [group for group, _ in SMALL] + [known(name) for name in KNOWN_RULES] + [ALL]:
            just(self, show_group(telling), shown_by_hand(telling))

    def test_no_group(self):
        for thing in NO_TELLINGS:
            refused(self, NoGroup, show_group, thing)
        just(self, by_place_and_name(self, show_group, telling=Table(TWO)), "table: 0 1 / 1 0")


class ReadTest(unittest.TestCase):
    """[27]"""

    def test_read(self):
        for text, telling in TOLD.items():
            same(self, read_group(text), telling)
        self.assertEqual(by_place_and_name(self, read_group, text="table: 0"), Table(((0,),)))

    def test_read_what_is_shown(self):
        for telling in TABLES + GREAT_TABLES + [group for group, _ in SMALL] + [known(name) for name in KNOWN_RULES] + [ALL]:
            same(self, read_group(show_group(telling)), telling)

    def test_bounds(self):
        turn = "(0 1 2)"
        for many in (99, 100):
            same(self, read_group("moves 3: " + ", ".join([turn] * many)), Moves(3, ((1, 2, 0),) * many))
        for many in (299, 300):
            same(self, read_group("rules a: " + ", ".join(["a^7"] * many)), Rules(("a",), ((1,) * 7,) * many))
        for text in [
                "moves 3: " + ", ".join([turn] * 101), "moves 61:", "moves 61: ()", "rules a: " + ", ".join(["a"] * 301), "rules a: a^401",
                "rules a b: a^200 b^201", "rules a: a^400 a", "moves 3: " + ", ".join([turn] * 700)]:
            just(self, refused(self, NoText, read_group, text).place, 0)
        same(self, read_group("rules a b: a^200 b^200"), Rules(("a", "b"), ((1,) * 200 + (2,) * 200,)))
        same(self, read_group(show_group(Table(cyclic(48)))), Table(cyclic(48)))
        text = "table: " + " / ".join(" ".join(map(str, line)) for line in cyclic(49))
        just(self, refused(self, NoTable, read_group, text).fault, ("form",))

    def test_no_text(self):
        for text in NO_TEXTS:
            just(self, refused(self, NoText, read_group, text).place, 0)
        for thing in ODD + NUMBERS + [Table(TWO), Moves(1, ()), Rules(("a",), ()), ("table: 0",), ["table: 0"], b"table: 0"]:
            just(self, refused(self, NoText, read_group, thing).place, 0)
        for thing in TEXTS:
            just(self, refused(self, NoText, read_group, thing).place, 0)

    def test_no_table(self):
        for text, why in NO_LINES.items():
            just(self, refused(self, NoTable, read_group, text).fault, why)

    def test_nearly_right(self):
        # A sign left out, put in, exchanged: what is read is shown as just this text, and else it is none.
        chance, read = random.Random(27), 0
        for text in TOLD:
            bent = [text[:at] + text[at + 1:] for at in range(len(text))]
            for sign in " 0123a,/:()^-bz\t":
                bent += [text[:at] + sign + text[at + 1:] for at in range(len(text))] + [text[:at] + sign + text[at:] for at in range(len(text) + 1)]
            for each in chance.sample(bent, min(len(bent), 500)):
                try:
                    telling = read_group(each)
                except NoText as error:
                    just(self, (type(error), error.place), (NoText, 0))
                except NoTable as error:
                    self.assertIs(type(error), NoTable)
                    self.assertTrue(each.startswith("table: ") and error.fault is not None, each)
                    self.assertTrue(all(word.isdigit() and str(int(word)) == word for line in each[7:].split(" / ") for word in line.split(" ")))
                else:
                    just(self, shown_by_hand(telling), each)
                    read += 1
        self.assertGreater(read, 200)


class GroupOfTest(unittest.TestCase):
    """[27]"""

    def test_group_of(self):
        for table in TABLES + GREAT_TABLES:
            self.assertEqual(group_of(table), table)
        for group, members in SMALL:
            if len(members) <= 48:
                self.assertEqual(group_of(group), table_of(group))
        for name in KNOWN_RULES:
            if KNOWN_RULES[name][2] <= 48:
                self.assertEqual(group_of(known(name)), table_of_rules(known(name)))
        self.assertIs(type(group_of(by_rounds(3, "(0 1 2)"))), Table)
        just(self, group_of(by_rounds(3, "(0 1 2)")).lines, cyclic(3))
        self.assertEqual(by_place_and_name(self, group_of, telling=Moves(2, ((1, 0),))), Table(TWO))

    def test_most_is_looked_at_of_rules_alone(self):
        rules = cyclic_rules(12)
        self.assertEqual(group_of(rules, most=12), group_of(rules))
        refused(self, StillOpen, group_of, rules, most=11)
        for thing in NO_MOST:
            refused(self, NoNumber, group_of, rules, most=thing)
            refused(self, NoNumber, group_of, cyclic_rules(49), most=thing)
            self.assertEqual(group_of(Table(TWO), most=thing), Table(TWO))
            self.assertEqual(group_of(Moves(2, ((1, 0),)), most=thing), Table(TWO))
        self.assertEqual(group_of(Table(FOUR), most=1), Table(FOUR))
        with self.assertRaises(TypeError):
            group_of(rules, 12)

    def test_refused(self):
        for thing in NO_TELLINGS:
            refused(self, NoGroup, group_of, thing)
            refused(self, NoGroup, group_of, thing, most=0)
        for thing, many in [(Moves(49, (turn_of(49, 0, 48),)), 49), (cyclic_rules(49), 49), (known("sixty"), 60)]:
            error = refused(self, TooGreat, group_of, thing)
            just(self, (error.many, error.most), (many, 48))
        refused(self, StillOpen, group_of, Rules(("a",), ()))
        refused(self, StillOpen, group_of, known("sixty"), most=59)

    def test_told_again(self):
        for telling in TOLD.values():
            just(self, show_group(telling), show_group(telling))
        for one, other in itertools.product([by_rounds(3, "(0 1 2)"), cyclic_rules(3), Table(cyclic(3))], repeat=2):
            told = [group_of(one).lines, group_of(other).lines, group_of(one).lines]
            just(self, told[0], told[2])
        self.assertIs(type(refusal(read_group, "x")), NoText)


if __name__ == "__main__":
    unittest.main()
