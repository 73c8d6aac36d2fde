import random
import unittest

from movegroups.chains import Moves
from movegroups.errors import (
    NoBack, NoGroup, NoLikeness, NoMap, NoName, NoPart, NoSuch, NoTable, NoText, NoWord, StillOpen, Taken, TooGreat)
from movegroups.language import group_of, read_group, show_group
from movegroups.library import Library
from movegroups.likeness import counts, likeness
from movegroups.maps import autos, homs, image, kernel
from movegroups.members import centralizer, centre, classes, normalizer, orders
from movegroups.rules import Rules
from movegroups.series import derived_series, lower_series
from movegroups.subs import is_normal
from movegroups.tables import Table
from movegroups.turning import moves_of, rules_of

from tests.groups import cyclic as cyclic_rules, known
from tests.kit import NUMBERS, ODD, TEXTS, Loud, by_place_and_name, just, refused
from tests.lines import FOUR, TWO, called, closed, cyclic, dicyclic, dihedral, keeps, paired, renamed
from tests.test_chains import by_rounds, turn_of
from tests.test_language import NO_TELLINGS, NO_TEXTS, same

NO_NAMES = ["", "abcdefghi", "A", "a1", "a b", "a-b", "1", " a", "a ", "\u00e4", "a\n", ("a",), ["a"], b"a"] + ODD + [text for text in TEXTS if text != "a"] + NUMBERS
TURNS = Table(dihedral(4))
GROUP_WORDS = {
    "order": len, "orders": orders, "classes": classes, "centre": centre, "derived": derived_series, "lower": lower_series, "counts": counts}
PART_WORDS = {"order": lambda table, sub: len(sub), "normal": is_normal, "normalizer": normalizer, "centralizer": centralizer}
MAP_WORDS = {"kernel": kernel, "image": image}
ALL_WORDS = sorted({**GROUP_WORDS, **PART_WORDS, **MAP_WORDS}) + ["subs", "", "Order", "order ", "led"]


def filled():
    """A Library of two groups, two parts and three maps."""
    library = Library()
    library.keep("turns", "table: " + " / ".join(" ".join(map(str, line)) for line in dihedral(4)))
    library.keep("two", cyclic_rules(2))
    library.part("half", "turns", (2,))
    library.lead("sides", "turns", "two", (0, 0, 0, 0, 1, 1, 1, 1))
    library.part("all", "two", (1,))
    library.lead("into", "two", "turns", (0, 4))
    library.lead("again", "turns", "turns", (0, 3, 2, 1, 4, 7, 6, 5))
    return library


def seen(library):
    """All that the library tells."""
    told = [library.names(), len(library)]
    for name in library.names():
        kind = library.kind(name)
        told.append((name, kind))
        if kind == "group":
            told += [library.telling(name), library.table(name).lines, library.led(name)]
        else:
            told.append(library.part_of(name) if kind == "part" else library.map_of(name))
    return told


def refuses(case, kind, library, deed, *given, **named):
    """The deed is refused, and changes nothing."""
    ahead, log = seen(library), library.log()
    error = refused(case, kind, getattr(library, deed), *given, **named)
    case.assertEqual(seen(library), ahead)
    just(case, len(library.log()), len(log))
    case.assertTrue(all(one is other for one, other in zip(library.log(), log)))
    return error


class KeepTest(unittest.TestCase):
    """[28], [29]"""

    def test_each_telling(self):
        library = Library()
        tellings = {
            "a": (by_rounds(4, "(0 1 2 3)", "(0 2)"), 8), "bb": (known("turns of three"), 6), "ccc": (Table(FOUR), 4), "moves": ("moves 5: (0 1 2), (3 4)", 6),
            "rules": ("rules a b: a^2, b^3, a b a b", 6), "abcdefgh": ("table: 0 1 / 1 0", 2), "one": ("moves 1:", 1), "z": (Table(cyclic(48)), 48)}
        for name, (telling, many) in tellings.items():
            just(self, library.keep(name, telling), many)
            read = read_group(telling) if isinstance(telling, str) else telling
            same(self, library.telling(name), read)
            self.assertEqual(library.table(name), group_of(read))
            just(self, library.led(name), tuple(range(many)))
            just(self, library.kind(name), "group")
        just(self, library.names(), tuple(tellings))
        just(self, len(library), 8)
        self.assertEqual(library.log(), tuple(("keep", name, telling) for name, (telling, _) in tellings.items()))
        self.assertIs(library.telling("a"), tellings["a"][0])
        just(self, Library().names(), ())
        just(self, (Library().log(), len(Library()), bool(Library()), bool(library)), ((), 0, False, True))

    def test_no_name_then_taken(self):
        library = filled()
        for thing in NO_NAMES:
            refuses(self, NoName, library, "keep", thing, "table: 0")
            refuses(self, NoName, library, "keep", thing, None)
            refuses(self, NoName, library, "part", thing, "turns", (0,))
            refuses(self, NoName, library, "part", thing, None, None)
            refuses(self, NoName, library, "lead", thing, "two", "two", (0, 1))
            refuses(self, NoName, library, "lead", thing, None, None, None)
        for name in library.names():
            for deed, given in [("keep", [Table(TWO)]), ("keep", [None]), ("part", ["turns", (0,)]), ("part", [None, None]),
                                ("lead", ["two", "two", (0, 1)]), ("lead", [None, None, None])]:
                just(self, refuses(self, Taken, library, deed, name, *given).name, name)

    def test_as_group_of_and_read_group(self):
        library = filled()
        for thing in [thing for thing in NO_TELLINGS if not isinstance(thing, str)]:
            refuses(self, NoGroup, library, "keep", "new", thing)
            refuses(self, NoGroup, library, "anew", "two", thing)
            refuses(self, NoGroup, library, "anew", "two", thing, by=None)
        for text in NO_TEXTS[::7] + TEXTS:
            just(self, refuses(self, NoText, library, "keep", "new", text).place, 0)
            just(self, refuses(self, NoText, library, "anew", "two", text, by=0).place, 0)
        for deed, name in [("keep", "new"), ("anew", "two")]:
            just(self, refuses(self, NoTable, library, deed, name, "table: 0 1 / 1 1").fault, ("back", 1))
            refuses(self, StillOpen, library, deed, name, Rules(("a",), ()))
            refuses(self, StillOpen, library, deed, name, "rules a b: a b a^-1 b^-1")
            for telling in (cyclic_rules(49), Moves(49, (turn_of(49, 0, 48),)), "rules a: a^49"):
                error = refuses(self, TooGreat, library, deed, name, telling)
                just(self, (error.many, error.most), (49, 48))

    def test_by_place_and_by_name(self):
        just(self, by_place_and_name(self, lambda name, telling: Library().keep(name=name, telling=telling), name="a", telling="moves 1:"), 1)
        just(self, Library().keep(telling="moves 2: (0 1)", name="a"), 2)
        just(self, Library().keep("a", "moves 2: (0 1)"), 2)
        library = filled()
        just(self, library.part(members=(1,), group="turns", name="x"), (0, 1, 2, 3))
        just(self, library.lead(images=(0, 0), other="turns", one="two", name="y"), (0, 0))
        just(self, library.anew(by=(0, 1), telling=Table(TWO), group="two"), (0, 1))
        just(self, library.asked(name="x", word="order"), 4)
        just(self, library.strike(name="x"), ("x",))
        just(self, [library.kind(name="y"), library.map_of(name="y")[2], library.part_of(name="half")[1]], ["map", (0, 0), (0, 2)])
        just(self, [library.led(name="two"), library.table(name="two").lines, library.telling(name="two").lines], [(0, 1), TWO, TWO])
        with self.assertRaises(TypeError):
            library.anew("two", Table(TWO), (0, 1))


class PartTest(unittest.TestCase):
    """[28], [29]"""

    def test_part(self):
        library = Library()
        library.keep("g", TURNS)
        library.keep("h", Table(cyclic(6)))
        just(self, library.part("a", "g", ()), (0,))
        just(self, library.part("b", "g", (1,)), (0, 1, 2, 3))
        just(self, library.part("c", "g", (2, 4)), (0, 2, 4, 6))
        just(self, library.part("d", "h", (2, 3)), (0, 1, 2, 3, 4, 5))
        just(self, library.part("e", "h", (4,)), (0, 2, 4))
        just(self, [library.part_of(name) for name in "abcde"], [
            ("g", (0,)), ("g", (0, 1, 2, 3)), ("g", (0, 2, 4, 6)), ("h", (0, 1, 2, 3, 4, 5)), ("h", (0, 2, 4))])
        just(self, [library.kind(name) for name in library.names()], ["group"] * 2 + ["part"] * 5)
        self.assertEqual(library.log()[2:4], (("part", "a", "g", ()), ("part", "b", "g", (1,))))

    def test_refused(self):
        library = filled()
        for thing in ["", "new", "half", "sides", "TURNS", "turns "] + ODD + TEXTS + NUMBERS:
            self.assertIs(refuses(self, NoSuch, library, "part", "new", thing, (0,)).name, thing)
            self.assertIs(refuses(self, NoSuch, library, "part", "new", thing, None).name, thing)
        for thing in [[0], (8,), (-1,), (1, 0), (0, 0), (True,), (False,), (0, None), "0", {0: 0}, None, range(2)] + [thing for thing in ODD if thing != ()] + TEXTS:
            self.assertIs(refuses(self, NoPart, library, "part", "new", "turns", thing).what, thing)


class LeadTest(unittest.TestCase):
    """[28], [29]"""

    def test_lead(self):
        library = filled()
        just(self, library.map_of("sides"), ("turns", "two", (0, 0, 0, 0, 1, 1, 1, 1)))
        just(self, library.map_of("into"), ("two", "turns", (0, 4)))
        just(self, library.lead("none", "turns", "turns", (0,) * 8), (0,) * 8)
        just(self, library.kind("none"), "map")
        self.assertEqual(library.log()[-1], ("lead", "none", "turns", "turns", (0,) * 8))

    def test_refused(self):
        library = filled()
        for thing in ["", "new", "half", "sides", "TURNS"] + ODD + TEXTS + NUMBERS:
            self.assertIs(refuses(self, NoSuch, library, "lead", "new", thing, "two", (0, 0)).name, thing)
            self.assertIs(refuses(self, NoSuch, library, "lead", "new", "two", thing, (0, 0)).name, thing)
            self.assertIs(refuses(self, NoSuch, library, "lead", "new", thing, None, None).name, thing)
        for thing in [(0,), (0, 0, 0), (0, 1), [0, 0], (0, 8), (0, -1), (1, 0), (False, 0), (0, True), (0, None), "00", {0: 0, 1: 0}, None, (1, 1)] + TEXTS:
            refuses(self, NoMap, library, "lead", "new", "two", "turns", thing)
        for thing in [thing for thing in ODD if thing != (0, 0)]:
            refuses(self, NoMap, library, "lead", "new", "two", "turns", thing)
        refuses(self, NoMap, library, "lead", "new", "turns", "two", (0, 0, 0, 0, 1, 1, 1, 0))
        refuses(self, NoMap, library, "lead", "new", "turns", "two", (0, 1))


class AnewTest(unittest.TestCase):
    """[28], [29], [3]"""

    def test_by_the_least(self):
        library = filled()
        other = renamed(dihedral(4), 28)
        told = library.anew("turns", Table(other))
        just(self, told, likeness(TURNS, Table(other))[1])
        just(self, library.table("turns").lines, other)
        just(self, library.led("turns"), told)
        just(self, library.part_of("half"), ("turns", tuple(sorted((0, told[2])))))
        just(self, library.map_of("sides")[2], tuple((0, 0, 0, 0, 1, 1, 1, 1)[told.index(member)] for member in range(8)))
        just(self, library.map_of("into")[2], (0, told[4]))
        just(self, library.map_of("again")[2], tuple(told[(0, 3, 2, 1, 4, 7, 6, 5)[told.index(member)]] for member in range(8)))
        just(self, library.part_of("all"), ("two", (0, 1)))
        just(self, library.names(), ("turns", "two", "half", "sides", "all", "into", "again"))
        self.assertEqual(library.log()[-1], ("anew", "turns", Table(other), None))

    def test_by_a_map(self):
        for by in autos(TURNS):
            library = filled()
            just(self, library.anew("turns", TURNS, by=by), by)
            just(self, library.led("turns"), by)
            just(self, library.part_of("half")[1], tuple(sorted((0, by[2]))))
            just(self, library.map_of("into")[2], (0, by[4]))
            self.assertEqual(library.log()[-1], ("anew", "turns", TURNS, by))
            self.assertIs(library.log()[-1][3], by)
        library = filled()
        just(self, library.anew("turns", TURNS, by=None), likeness(TURNS, TURNS)[1])

    def test_each_telling(self):
        library = filled()
        table = library.table("turns")
        for telling in [moves_of(table), rules_of(table), show_group(moves_of(table)), "rules a b: a^2, b^2, a b a b a b a b", by_rounds(4, "(0 1 2 3)", "(0 2)")]:
            ahead = library.table("turns")
            told = library.anew("turns", telling)
            read = read_group(telling) if isinstance(telling, str) else telling
            same(self, library.telling("turns"), read)
            self.assertEqual(library.table("turns"), group_of(read))
            just(self, told, likeness(ahead, group_of(read))[1])
            self.assertIs(library.log()[-1][2], telling)

    def test_no_such(self):
        library = filled()
        for thing in ["", "new", "half", "sides", "TURNS"] + ODD + TEXTS + NUMBERS:
            self.assertIs(refuses(self, NoSuch, library, "anew", thing, Table(TWO)).name, thing)
            self.assertIs(refuses(self, NoSuch, library, "anew", thing, None, by=0).name, thing)

    def test_no_likeness_then_no_map(self):
        library = filled()
        for telling in [Table(TWO), Table(cyclic(8)), Table(dicyclic(2)), "moves 1:", "moves 5: (0 1), (2 3), (0 4)", cyclic_rules(8)]:
            for by in (None, 0, (0,) * 8, tuple(range(8))):
                refuses(self, NoLikeness, library, "anew", "turns", telling, by=by)
        bent = [(0,) * 8, (0, 0, 0, 0, 4, 4, 4, 4), (0, 2, 1, 3, 4, 5, 6, 7), tuple(range(7)), tuple(range(9)), list(range(8)), (0, True, 2, 3, 4, 5, 6, 7)]
        for thing in bent + [thing for thing in ODD + TEXTS + NUMBERS if thing is not None]:
            refuses(self, NoMap, library, "anew", "turns", TURNS, by=thing)
        refuses(self, NoMap, library, "anew", "two", Table(TWO), by=(0, 0))
        refuses(self, NoMap, library, "anew", "two", Table(TWO), by=(0, True))
        self.assertEqual(filled(), library)

    def test_what_is_told_is_led_over(self):
        """Deeds by chance: each part and map is what it was told as, led over by all maps since."""
        chance = random.Random(29)
        names = ["d", "c", "q", "f"]
        for _ in range(12):
            library, told, parts, maps = Library(), {}, {}, {}
            for name, lines in zip(names, [dihedral(4), cyclic(4), dicyclic(2), FOUR]):
                library.keep(name, Table(renamed(lines, chance.randrange(99))))
                told[name] = tuple(range(len(lines)))
            for step in range(30):
                kind, name, other = chance.randrange(4), chance.choice(names), chance.choice(names)
                table = library.table(name)
                if kind == 0:
                    new = "part" + chr(97 + step % 26)
                    if new in library.names():
                        continue
                    members = tuple(sorted(chance.sample(range(len(table)), chance.randrange(3))))
                    sub = library.part(new, name, members)
                    just(self, sub, closed(table.lines, members))
                    parts[new] = (name, sub)
                elif kind == 1:
                    new = "map" + chr(97 + step % 26)
                    if new in library.names():
                        continue
                    images = chance.choice(homs(table, library.table(other)))
                    just(self, library.lead(new, name, other, images), images)
                    maps[new] = (name, other, images)
                else:
                    lines = renamed(table.lines, chance.randrange(99))
                    by = None
                    if kind == 3:
                        auto = chance.choice(autos(table))
                        by = tuple(likeness(table, Table(lines))[1][member] for member in auto)
                    led = library.anew(name, Table(lines), by=by)
                    just(self, led, likeness(table, Table(lines))[1] if by is None else by)
                    self.assertTrue(keeps(table.lines, lines, led))
                    told[name] = tuple(led[member] for member in told[name])
                    for each, (group, sub) in parts.items():
                        if group == name:
                            parts[each] = (group, tuple(sorted(led[member] for member in sub)))
                    for each, (one, two, images) in maps.items():
                        pairs = [(led[member] if one == name else member, led[to] if two == name else to) for member, to in enumerate(images)]
                        maps[each] = (one, two, tuple(to for _, to in sorted(pairs)))
                just(self, [library.led(each) for each in names], [told[each] for each in names])
                just(self, {each: library.part_of(each) for each in parts}, parts)
                just(self, {each: library.map_of(each) for each in maps}, maps)
            for one, other, images in maps.values():
                self.assertTrue(keeps(library.table(one).lines, library.table(other).lines, images))

    def test_what_is_asked_is_led_over(self):
        library = filled()
        words = [("classes", "turns"), ("centre", "turns"), ("derived", "turns"), ("lower", "turns")]
        words += [("normalizer", "half"), ("centralizer", "half"), ("kernel", "sides"), ("image", "again"), ("image", "into")]
        same_words = [("order", "turns"), ("orders", "turns"), ("counts", "turns"), ("order", "half"), ("normal", "half"), ("kernel", "into")]
        for seed in range(6):
            ahead = [library.asked(*each) for each in words]
            stay = [library.asked(*each) for each in same_words]
            by = library.anew("turns", Table(renamed(dihedral(4), seed)))

            def led(thing):
                return tuple(sorted(by[member] for member in thing)) if not thing or isinstance(thing[0], int) else tuple(led(each) for each in thing)

            ahead = [tuple(sorted(led(told))) if word == "classes" else led(told) for (word, _), told in zip(words, ahead)]
            just(self, [library.asked(*each) for each in words], ahead)
            just(self, [library.asked(*each) for each in same_words], stay)


class StrikeTest(unittest.TestCase):
    """[28]"""

    def test_strike(self):
        library = filled()
        just(self, library.strike("half"), ("half",))
        just(self, library.strike("again"), ("again",))
        just(self, library.strike("two"), ("two", "sides", "all", "into"))
        just(self, library.names(), ("turns",))
        just(self, library.strike("turns"), ("turns",))
        just(self, (library.names(), len(library)), ((), 0))
        self.assertEqual(library.log()[-4:], (("strike", "half"), ("strike", "again"), ("strike", "two"), ("strike", "turns")))
        library = filled()
        just(self, library.strike("turns"), ("turns", "half", "sides", "into", "again"))
        just(self, library.names(), ("two", "all"))
        just(self, library.keep("half", "moves 1:"), 1)
        just(self, library.names(), ("two", "all", "half"))
        refuses(self, NoSuch, library, "part_of", "half")

    def test_a_name_anew(self):
        library = filled()
        library.anew("turns", TURNS, by=(0, 3, 2, 1, 4, 7, 6, 5))
        library.strike("turns")
        library.keep("turns", TURNS)
        just(self, library.led("turns"), tuple(range(8)))
        just(self, library.names(), ("two", "all", "turns"))

    def test_no_such(self):
        library = filled()
        for thing in ["", "new", "TURNS", "half "] + ODD + TEXTS + NUMBERS:
            self.assertIs(refuses(self, NoSuch, library, "strike", thing).name, thing)


class BackTest(unittest.TestCase):
    """[28]"""

    def test_back_of_each_deed(self):
        deeds = [
            ("keep", ["new", Table(FOUR)], {}), ("part", ["new", "turns", (1,)], {}), ("lead", ["new", "two", "two", (0, 1)], {}), ("strike", ["half"], {}),
            ("anew", ["turns", Table(renamed(dihedral(4), 5))], {}), ("anew", ["turns", TURNS], {"by": (0, 1, 2, 3, 5, 6, 7, 4)}), ("strike", ["turns"], {}),
            ("strike", ["sides"], {})]
        for deed, given, named in deeds:
            library = filled()
            ahead, log = seen(library), library.log()
            getattr(library, deed)(*given, **named)
            self.assertNotEqual(seen(library), ahead)
            self.assertIs(library.back(), None)
            self.assertEqual(seen(library), ahead)
            self.assertEqual(library, filled())
            by = (named.get("by"),) if deed == "anew" else ()
            self.assertEqual(library.log(), log + ((deed, *given) + by, ("back",)))

    def test_several(self):
        library = Library()
        states = [seen(library)]
        steps = [
            lambda: library.keep("g", TURNS), lambda: library.part("p", "g", (2,)), lambda: library.keep("h", Table(TWO)),
            lambda: library.anew("g", Table(renamed(dihedral(4), 1))), lambda: library.lead("m", "h", "g", (0, 0)), lambda: library.strike("p"),
            lambda: library.anew("g", Table(renamed(dihedral(4), 2))), lambda: library.strike("g")]
        for step in steps:
            step()
            states.append(seen(library))
        for many in range(8):
            library.back()
            self.assertEqual(seen(library), states[7 - many])
            just(self, len(library.log()), 9 + many)
        just(self, library.log()[8:], (("back",),) * 8)
        refuses(self, NoBack, library, "back")
        # What was taken back is no deed any more: the one ahead of it is the last.
        library.keep("g", TURNS)
        library.keep("h", TURNS)
        library.back()
        library.keep("k", TURNS)
        library.back()
        library.back()
        just(self, library.names(), ())
        refuses(self, NoBack, library, "back")
        just(self, [note[0] for note in library.log()[16:]], ["keep", "keep", "back", "keep", "back", "back"])

    def test_none(self):
        refuses(self, NoBack, Library(), "back")
        library = Library()
        refuses(self, NoName, library, "keep", "A", TURNS)
        refuses(self, NoBack, library, "back")


class ToldTest(unittest.TestCase):
    """[29]"""

    def test_asked(self):
        library = filled()
        for seed in (None, 3):
            if seed is not None:
                library.anew("turns", Table(renamed(dihedral(4), seed)))
            for name in ("turns", "two"):
                for word, call in GROUP_WORDS.items():
                    just(self, library.asked(word, name), call(library.table(name)))
            for name in ("half", "all"):
                group, sub = library.part_of(name)
                for word, call in PART_WORDS.items():
                    just(self, library.asked(word, name), call(library.table(group), sub))
            for name in ("sides", "into", "again"):
                one, other, images = library.map_of(name)
                for word, call in MAP_WORDS.items():
                    just(self, library.asked(word, name), call(library.table(one), library.table(other), images))

    def test_asked_of_known_groups(self):
        library = filled()
        just(self, [library.asked(word, "turns") for word in ("order", "orders", "centre", "derived", "lower")], [
            8, ((1, 1), (2, 5), (4, 2)), (0, 2), ((0, 1, 2, 3, 4, 5, 6, 7), (0, 2), (0,)), ((0, 1, 2, 3, 4, 5, 6, 7), (0, 2), (0,))])
        library.keep("three", "moves 3: (0 1 2), (0 1)")
        just(self, [library.asked(word, "three") for word in ("derived", "lower")], [((0, 1, 2, 3, 4, 5), (0, 3, 4), (0,)), ((0, 1, 2, 3, 4, 5), (0, 3, 4))])
        library.part("turn", "three", (1,))
        just(self, [library.asked(word, "turn") for word in PART_WORDS], [2, False, (0, 1), (0, 1)])
        just(self, [library.asked(word, "half") for word in PART_WORDS], [2, True, tuple(range(8)), tuple(range(8))])
        just(self, [library.asked(word, "sides") for word in MAP_WORDS], [(0, 1, 2, 3), (0, 1)])

    def test_no_word(self):
        library = filled()
        for names, words in [(("turns", "two"), GROUP_WORDS), (("half", "all"), PART_WORDS), (("sides", "into", "again"), MAP_WORDS)]:
            for name in names:
                for word in [word for word in ALL_WORDS if word not in words] + [Loud(), b"order", ["order"], ("order",)] + ODD + TEXTS + NUMBERS:
                    refuses(self, NoWord, library, "asked", word, name)

    def test_no_such(self):
        library = filled()
        kinds = {"telling": "group", "table": "group", "led": "group", "part_of": "part", "map_of": "map"}
        nothing = ["", "new", "TURNS", "half ", Loud(), ("turns",), ["turns"]] + ODD + TEXTS + NUMBERS
        for call, kind in kinds.items():
            for name in library.names():
                if library.kind(name) != kind:
                    just(self, refuses(self, NoSuch, library, call, name).name, name)
            for thing in nothing:
                self.assertIs(refuses(self, NoSuch, library, call, thing).name, thing)
        for thing in nothing:
            self.assertIs(refuses(self, NoSuch, library, "kind", thing).name, thing)
            self.assertIs(refuses(self, NoSuch, library, "asked", "order", thing).name, thing)
            self.assertIs(refuses(self, NoSuch, library, "asked", None, thing).name, thing)
            self.assertIs(refuses(self, NoSuch, library, "asked", thing, "new").name, "new")

    def test_log(self):
        library = Library()
        text, members, images, table = "moves 2: (0 1)", (1,), (0, 1), Table(TWO)
        library.keep("g", text)
        library.part("p", "g", members)
        library.lead("m", "g", "g", images)
        refuses(self, NoSuch, library, "strike", "x")
        library.anew("g", table)
        library.anew("g", text, by=images)
        library.strike("p")
        refuses(self, Taken, library, "keep", "m", text)
        library.back()
        told = library.log()
        self.assertEqual(told, (
            ("keep", "g", text), ("part", "p", "g", members), ("lead", "m", "g", "g", images), ("anew", "g", table, None), ("anew", "g", text, images),
            ("strike", "p"), ("back",)))
        for note, thing in [(told[0], text), (told[1], members), (told[2], images), (told[3], table), (told[4], images), (told[4], text)]:
            self.assertTrue(any(each is thing for each in note))
        self.assertIs(type(told), tuple)
        library.strike("p")
        just(self, len(told), 7)

    def test_alike(self):
        one = filled()
        self.assertIs(one == filled(), True)
        self.assertIs(one != filled(), False)
        self.assertIs(Library() == Library(), True)
        for thing in [Library(), "Library()", None, one.names(), Loud(), TURNS] + ODD:
            self.assertIs(one == thing, False)
            self.assertIs(one != thing, True)
        deeds = [
            lambda other: other.keep("new", "moves 1:"), lambda other: other.part("new", "two", ()), lambda other: other.strike("half"),
            lambda other: other.anew("turns", Table(renamed(dihedral(4), 1))), lambda other: other.anew("turns", moves_of(TURNS)),
            lambda other: other.anew("two", Table(TWO))]
        for deed in deeds:
            other = filled()
            deed(other)
            self.assertIs(one == other, False)
            self.assertIs(other != one, True)
            other.back()
            self.assertIs(one == other, True)

    def test_alike_whatever_led_tells(self):
        one, other = Library(), Library()
        for library in (one, other):
            library.keep("g", Table(cyclic(5)))
        other.anew("g", Table(cyclic(5)), by=(0, 2, 4, 1, 3))
        self.assertNotEqual(one.led("g"), other.led("g"))
        self.assertEqual(one, other)
        one.part("p", "g", (1,))
        other.part("p", "g", (2,))
        self.assertEqual(one, other)
        one.lead("m", "g", "g", (0, 1, 2, 3, 4))
        other.lead("m", "g", "g", (0, 2, 4, 1, 3))
        self.assertNotEqual(one, other)

    def test_alike_by_order_and_kind(self):
        def made(*names):
            library = Library()
            for name in names:
                library.keep(name, "moves 2: (0 1)")
            return library

        self.assertEqual(made("a", "b"), made("a", "b"))
        self.assertNotEqual(made("a", "b"), made("b", "a"))
        one, other = made("a"), made("a")
        one.part("p", "a", ())
        other.part("p", "a", (1,))
        self.assertNotEqual(one, other)
        one, other = made("a", "b"), made("a", "b")
        one.part("p", "a", ())
        other.part("p", "b", ())
        self.assertNotEqual(one, other)
        other.back()
        other.lead("p", "a", "a", (0, 0))
        self.assertNotEqual(one, other)
        one.back()
        one.lead("p", "a", "b", (0, 0))
        self.assertNotEqual(one, other)
        # Alike tellings are enough: the moves of the one make what those of the other do.
        one, other = Library(), Library()
        one.keep("a", by_rounds(3, "(0 1 2)"))
        other.keep("a", by_rounds(3, "(0 2 1)", "(0 1 2)"))
        self.assertEqual(one, other)

    def test_told_again_and_side_by_side(self):
        one, other = filled(), filled()
        told = seen(one)
        other.strike("turns")
        other.keep("turns", Table(paired(TWO, FOUR)))
        self.assertEqual(seen(one), told)
        lines = called(FOUR, [0, 2, 3, 1])
        one.keep("x", Table(lines))
        self.assertEqual(seen(one)[2:len(told)], told[2:])
        just(self, one.table("x").lines, lines)


if __name__ == "__main__":
    unittest.main()
