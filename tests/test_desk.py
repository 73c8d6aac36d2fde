import unittest

from movegroups import desk as desks
from movegroups.desk import Desk
from movegroups.errors import (
    NoBack, NoLikeness, NoName, NoOrder, NoPart, NoSuch, NoTable, NoText, NoWord, StillOpen, Taken, TooGreat)
from movegroups.language import read_group, show_group
from movegroups.likeness import likeness
from movegroups.lists import groups_of, named
from movegroups.members import orders
from movegroups.tables import Table
from movegroups.turning import rules_of

from tests.kit import NUMBERS, ODD, TEXTS, Loud, by_place_and_name, just, refused
from tests.lines import FOUR, TABLES, cyclic, dicyclic, dihedral, named as known, paired, renamed

TURNS = "moves 4: (0 1 2 3), (0 2)"
# Rows that are nearly one of the desk's, on a desk of `filled`.
NO_ROWS = [
    "", " ", "  ", "keep", "keep ", "keep x", "keep x ", " keep x moves 1:", "keep  x moves 1:", "keep x  moves 1:", "keep x moves  1:", "keep x moves 1: ",
    "Keep x moves 1:", "keeps x moves 1:", "keep\tx moves 1:", "keep x\tmoves", "anew", "anew g", "anew g ", "anew  g moves 1:", "anew g moves 4:  ()", "part", "part p",
    "part x g", "part x g ", "part x g 00", "part x g 01", "part x g 0 01", "part x g -1", "part x g +1", "part x g 1.0", "part x g 1,2", "part x g a", "part x g 0  1",
    "part x g 1 ", "part  x g 1", "part x g \u0661", "part x g \u00b2", "part x g 1_0", "part x g (1)", "part x g 0 x", "part x g x 0", "strike", "strike ", "strike g ",
    "strike  g", "strike g h", " strike g", "back ", " back", "back 1", "back g", "Back", "backs", "names ", " names", "names g", "name", "order", "order ", "order g ",
    "order g h", "order  g", "orders", "orders g h", "orders g ", "ordersg", "alike", "alike g", "alike g ", "alike g h k", "alike  g h", "alike g  h", "alike g h ",
    "named", "named g h", "named g ", "named", "telling", "telling g h", "telling ", "paper", "paper g", "paper g h k", "paper g  h", "lead m g g 0", "asked order g", "log",
    "led g", "table g", "kind g", "say names", "names\n", "back\n", "names\t", "names,", "len", "none", "ok", "holds", "orders\u00a0g", "order\u00a0g", "1", "keep:x moves 1:",
]


def filled():
    """A Desk of two groups and two parts."""
    desk = Desk()
    desk.say("keep g " + TURNS)
    desk.say("keep h rules a: a^2")
    desk.say("part p g 1")
    desk.say("part q h 1")
    return desk


def seen(desk):
    """All that the desk's library tells of itself."""
    told = [desk.say("names")]
    for name in told[0].split(" "):
        for row in (f"order {name}", f"telling {name}"):
            try:
                told.append(desk.say(row))
            except NoSuch:
                told.append(None)
    return told


def refuses(case, kind, desk, row):
    """The row is refused, and changes nothing."""
    ahead = seen(desk)
    error = refused(case, kind, desk.say, row)
    just(case, seen(desk), ahead)
    return error


class RowsTest(unittest.TestCase):
    """[32]"""

    def test_each_row(self):
        desk = Desk()
        for row, answer in [
                ("names", "none"), ("keep g " + TURNS, "8"), ("keep h rules a: a^2", "2"), ("keep t table: 0 1 / 1 0", "2"), ("names", "g h t"),
                ("order g", "8"), ("orders g", "1:1 2:5 4:2"), ("orders h", "1:1 2:1"), ("named g", "8.2"), ("named h", "2.0"), ("telling g", TURNS),
                ("telling h", "rules a: a^2"), ("telling t", "table: 0 1 / 1 0"), ("alike h t", "alike"), ("alike g g", "alike"), ("alike g h", "unlike order"),
                ("paper g h", "holds"), ("paper h t", "holds"), ("part p g 1", "0 1"), ("part q g 0 1 4", "0 1 4 5"), ("part r g 0", "0"), ("order p", "2"),
                ("names", "g h t p q r"), ("strike p", "p"), ("names", "g h t q r"), ("back", "ok"), ("names", "g h t p q r"), ("strike g", "g p q r"), ("names", "h t"),
                ("back", "ok"), ("names", "g h t p q r"), ("anew g rules a b: a^2, b^2, a b a b a b a b", "8"), ("telling g", "rules a b: a^2, b^2, a b a b a b a b"),
                ("order q", "4"), ("keep one moves 1:", "1"), ("named one", "1.0"), ("orders one", "1:1"), ("anew one table: 0", "1"), ("telling one", "table: 0"),
                ("strike one", "one")]:
            just(self, desk.say(row), answer)

    def test_keep_and_telling(self):
        desk = Desk()
        for place, text in enumerate(["moves 5:", "moves 5: (0 1 2), (3 4)", "rules a b: a^2, b^3, a b a b", "rules z: z", "table: 0 1 2 / 1 2 0 / 2 0 1"]):
            name = "abcde"[place]
            just(self, desk.say(f"keep {name} {text}"), ("1", "6", "6", "1", "3")[place])
            just(self, desk.say(f"telling {name}"), text)

    def test_part(self):
        desk = Desk()
        desk.say("keep g " + show_group(Table(cyclic(12))))
        just(self, desk.say("part a g 4"), "0 4 8")
        just(self, desk.say("part b g 4 6"), "0 2 4 6 8 10")
        just(self, desk.say("part c g 0 11"), "0 1 2 3 4 5 6 7 8 9 10 11")
        just(self, [desk.say(f"order {name}") for name in "abc"], ["3", "6", "12"])

    def test_compared(self):
        desk = Desk()
        tables = {"d": dihedral(4), "q": dicyclic(2), "c": cyclic(8), "e": renamed(dihedral(4), 3), "f": paired(FOUR, cyclic(2))}
        tables.update({"x": known("four by four").lines, "y": known("eight and two").lines, "z": known("eight by two").lines, "w": paired(cyclic(8), cyclic(2))})
        for name, lines in tables.items():
            desk.say(f"keep {name} " + show_group(Table(lines)))
        met = set()
        for one in tables:
            for other in tables:
                told = likeness(Table(tables[one]), Table(tables[other]))
                answer = f"unlike {told[1]}" if told[0] == "count" else {"map": "alike", "search": "unlike search"}[told[0]]
                just(self, desk.say(f"alike {one} {other}"), answer)
                just(self, desk.say(f"paper {one} {other}"), "holds")
                met.add(answer)
        just(self, sorted(met), ["alike", "unlike classes", "unlike order", "unlike orders", "unlike search"])

    def test_paper_that_isnt_taken(self):
        # `no` stands where the judge doesn't take the paper: none of the house's is such.
        desk, whole = filled(), desks.holds
        try:
            desks.holds = lambda claim, paper: False
            just(self, desk.say("paper g h"), "no")
        finally:
            desks.holds = whole
        just(self, desk.say("paper g h"), "holds")

    def test_orders_and_named(self):
        desk = Desk()
        for table in TABLES[::5]:
            just(self, desk.say("keep g " + show_group(table)), str(len(table)))
            just(self, desk.say("orders g"), " ".join(f"{order}:{many}" for order, many in orders(table)))
            just(self, desk.say("named g"), f"{len(table)}.{named(table)[0]}")
            just(self, desk.say("strike g"), "g")
        for place, table in enumerate(groups_of(12)):
            desk.say("keep g " + show_group(rules_of(table)))
            just(self, desk.say("named g"), f"12.{place}")
            desk.say("back")

    def test_great_numbers(self):
        desk = filled()
        error = refuses(self, NoPart, desk, "part x g 1 8")
        just(self, error.what, (1, 8))
        just(self, refuses(self, NoPart, desk, "part x g " + "9" * 39).what, (10 ** 39 - 1,))
        just(self, refuses(self, NoPart, desk, "part x g 10").what, (10,))
        refuses(self, NoPart, desk, "part x g " + "9" * 5000)


class RefusedTest(unittest.TestCase):
    """[32]"""

    def test_no_order(self):
        desk = filled()
        for row in NO_ROWS:
            refuses(self, NoOrder, desk, row)
        for thing in [b"names", ["names"], ("names",), Loud(), Desk()] + ODD + TEXTS + NUMBERS:
            refuses(self, NoOrder, desk, thing)

    def test_no_order_ahead_of_all(self):
        desk = filled()
        for row in ["part G x 01", "part g g x", "part x nothing 1 01", "keep G", "keep g", "strike nothing more", "alike x", "anew nothing"]:
            refuses(self, NoOrder, desk, row)

    def test_as_the_library_refuses(self):
        desk = filled()
        for row in ["keep G moves 1:", "keep a1 moves 1:", "keep abcdefghi moves 1:", "keep \u00e4 x", "part P g 1", "part x.y nothing 1", "keep 0 1", "keep x\ty moves 1:"]:
            refuses(self, NoName, desk, row)
        for row in ["keep g moves 1:", "keep p x", "part h nothing 9", "part p g 1"]:
            just(self, refuses(self, Taken, desk, row).name, row.split(" ")[1])
        for row, name in [
                ("part x y 1", "y"), ("part x p 99", "p"), ("strike x", "x"), ("anew x moves 1:", "x"), ("anew p y", "p"), ("order x", "x"), ("orders x", "x"),
                ("alike x y", "x"), ("alike g y", "y"), ("alike g p", "p"), ("alike p x", "p"), ("paper x g", "x"), ("paper g p", "p"), ("named x", "x"), ("named p", "p"),
                ("telling x", "x"), ("telling p", "p"), ("order G", "G"), ("strike 0", "0")]:
            just(self, refuses(self, NoSuch, desk, row).name, name)
        for row in ["keep x y", "keep x moves 05:", "keep x table: 00", "keep x table: 0 1 / 1 0 /", "keep x moves 5: (0 1),(2 3)", "anew g moves", "keep x names", "keep x 0"]:
            just(self, refuses(self, NoText, desk, row).place, 0)
        just(self, refuses(self, NoTable, desk, "keep x table: 0 1 / 1 1").fault, ("back", 1))
        just(self, refuses(self, NoTable, desk, "anew g table: 1").fault, ("form",))
        for row in ["part x g 1 0", "part x g 1 1", "part x g 8"]:
            just(self, refuses(self, NoPart, desk, row).what, tuple(int(word) for word in row.split(" ")[3:]))
        refuses(self, NoWord, desk, "orders p")
        refuses(self, StillOpen, desk, "keep x rules a:")
        refuses(self, NoLikeness, desk, "anew g rules a: a^8")
        error = refuses(self, TooGreat, desk, "keep x moves 5: (0 1 2 3 4), (0 1)")
        just(self, (error.many, error.most), (120, 48))

    def test_named_too_great(self):
        desk = Desk()
        desk.say("keep g " + show_group(Table(cyclic(25))))
        error = refuses(self, TooGreat, desk, "named g")
        just(self, (error.many, error.most), (25, 24))
        desk.say("keep h " + show_group(Table(cyclic(24))))
        just(self, desk.say("named h"), f"24.{named(Table(cyclic(24)))[0]}")

    def test_back(self):
        desk = Desk()
        refuses(self, NoBack, desk, "back")
        desk.say("keep g moves 1:")
        refuses(self, Taken, desk, "keep g moves 1:")
        just(self, desk.say("back"), "ok")
        refuses(self, NoBack, desk, "back")


class DesksTest(unittest.TestCase):
    """[32], [2]"""

    def test_side_by_side(self):
        one, other = Desk(), Desk()
        one.say("keep g moves 2: (0 1)")
        just(self, (one.say("names"), other.say("names")), ("g", "none"))
        other.say("keep g moves 1:")
        just(self, (one.say("order g"), other.say("order g")), ("2", "1"))
        one.say("strike g")
        just(self, (one.say("names"), other.say("names")), ("none", "g"))
        other.say("back")
        refused(self, NoBack, other.say, "back")
        just(self, one.say("back"), "ok")
        just(self, (one.say("names"), other.say("names")), ("g", "none"))

    def test_by_place_and_by_name(self):
        just(self, by_place_and_name(self, Desk().say, row="names"), "none")
        just(self, show_group(read_group(filled().say(row="telling g"))), TURNS)

    def test_told_again(self):
        desk = filled()
        for row in ["names", "order g", "orders g", "alike g h", "named g", "telling g", "paper g h"]:
            just(self, desk.say(row), desk.say(row))
        self.assertIs(desk == desk, True)
        for thing in [filled(), None, "names", ("names",)]:
            self.assertIs(desk == thing, False)
            self.assertIs(desk != thing, True)


if __name__ == "__main__":
    unittest.main()
