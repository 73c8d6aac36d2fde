import unittest

from movegroups.chains import Moves
from movegroups.errors import NoGroup, NoNumber, NoRules, NoTable, StillOpen, TooGreat
from movegroups.likeness import likeness
from movegroups.rules import Rules, broken
from movegroups.subs import leading
from movegroups.tables import Table
from movegroups.turning import doing_of, moves_of, rules_of, table_of, table_of_rules

from tests.groups import KNOWN as KNOWN_RULES
from tests.groups import NamingByHand, cyclic as cyclic_rules, known, less_key
from tests.kit import NUMBERS, ODD, TEXTS, by_place_and_name, just, refused
from tests.lines import FOUR, GREAT_TABLES, TABLES, TWO, back_of, cyclic, keeps, made, named, order
from tests.test_chains import ALL, SMALL, by_rounds, turn_of
from tests.test_subs import THREE
from tests.wrong import refuse_tables

ONE = Table(cyclic(1))
NO_GROUPS = [ONE, Rules(("a",), ()), (1, 0), ((1, 0),), Moves, 5, "moves 5:", "table: 0"] + ODD + TEXTS + NUMBERS
NO_RULES = [ONE, Moves(1, ()), ("a",), "rules a:", Rules, ((1, 1),)] + ODD + TEXTS + NUMBERS
NO_MOST = [0, 5001, -1, 10 ** 39, -10 ** 39] + ODD + TEXTS
# Order 48: all moves of four points, and a swap of two others.
FORTY_EIGHT = by_rounds(6, "(0 1 2 3)", "(0 1)", "(4 5)")


def alike(case, one, other):
    """Both Tables are alike, by a map that is looked at by hand."""
    word, images = likeness(one, other)
    case.assertEqual(word, "map")
    case.assertTrue(keeps(one.lines, other.lines, images))
    case.assertEqual(sorted(images), list(range(len(other))))


def table_by_hand(members):
    number = {move: place for place, move in enumerate(members)}
    return tuple(tuple(number[tuple(other[image] for image in one)] for other in members) for one in members)


def table_of_rows_by_hand(rows, letters):
    """What A and B make, by the least word that leads from 0 to B, of all words in their turn."""
    turns = [turn for letter in range(1, letters + 1) for turn in (letter, -letter)]

    def gone(row, word):
        for letter in word:
            row = rows[row][turns.index(letter)]
        return row

    words, last = {0: ()}, [()]
    while last:
        last = [word + (turn,) for word in last for turn in turns if gone(0, word + (turn,)) not in words]
        for word in sorted(last, key=less_key):
            words.setdefault(gone(0, word), word)
        last = [word for word in last if word in words.values()]
    return tuple(tuple(gone(one, words[other]) for other in range(len(rows))) for one in range(len(rows)))


def rules_by_hand(table):
    """Letters, rules and the least word of each member, as the document tells."""
    lines, leaders = table.lines, leading(table)
    if not leaders:
        return ("a",), ((1,),)
    turns = [turn for letter in range(1, len(leaders) + 1) for turn in (letter, -letter)]

    def member(word):
        return made(lines, *[leaders[letter - 1] if letter > 0 else back_of(lines, leaders[-letter - 1]) for letter in word])

    words, last = {0: ()}, [()]
    while len(words) < len(lines):
        last = sorted((word + (turn,) for word in last for turn in turns), key=less_key)
        for word in last:
            words.setdefault(member(word), word)
        last = [word for word in last if word in words.values()]
    rules = []
    for one in range(len(lines)):
        for letter in range(1, len(leaders) + 1):
            back = tuple(-each for each in reversed(words[lines[one][leaders[letter - 1]]]))
            rule = []
            for each in words[one] + (letter,) + back:
                if rule and rule[-1] == -each:
                    rule.pop()
                else:
                    rule.append(each)
            if rule and tuple(rule) not in rules:
                rules.append(tuple(rule))
    return tuple("abcdefgh"[:len(leaders)]), tuple(rules)


class TableOfTest(unittest.TestCase):
    """[15]"""

    def test_by_ranks(self):
        for group, members in SMALL:
            if len(members) <= 48:
                told = table_of(group)
                self.assertIs(type(told), Table)
                just(self, told.lines, table_by_hand(members))

    def test_known_groups(self):
        just(self, table_of(Moves(1, ())).lines, ((0,),))
        just(self, table_of(Moves(60, ())).lines, ((0,),))
        just(self, table_of(Moves(3, ((1, 2, 0),))).lines, ((0, 1, 2), (1, 2, 0), (2, 0, 1)))
        # A and B make the one, then the other: rank 1 leaves the first point, rank 2 the last.
        lines = table_of(by_rounds(3, "(0 1 2)", "(0 1)")).lines
        just(self, (lines[1][2], lines[2][1]), (3, 4))
        just(self, (FORTY_EIGHT.member(4), FORTY_EIGHT.member(9)), ((0, 2, 1, 3, 4, 5), (0, 3, 1, 2, 5, 4)))
        just(self, table_of(FORTY_EIGHT).lines[4][9], FORTY_EIGHT.rank((0, 1, 3, 2, 5, 4)))
        just(self, len(table_of(FORTY_EIGHT)), 48)

    def test_too_great(self):
        for group, many in [
                (Moves(49, (turn_of(49, 0, 48),)), 49), (by_rounds(5, "(0 1 2 3 4)", "(0 1 2)"), 60), (ALL, ALL.order()),
                (Moves(7, (turn_of(7, 0, 6), turn_of(7, 0, 1))), 5040)]:
            error = refused(self, TooGreat, table_of, group)
            just(self, (error.many, error.most), (many, 48))

    def test_no_group(self):
        for thing in NO_GROUPS:
            refused(self, NoGroup, table_of, thing)

    def test_by_place_and_by_name(self):
        self.assertEqual(by_place_and_name(self, table_of, group=Moves(2, ((1, 0),))), Table(TWO))


class MovesOfTest(unittest.TestCase):
    """[15]"""

    def test_moves(self):
        for table in TABLES + GREAT_TABLES:
            told = moves_of(table)
            self.assertIs(type(told), Moves)
            just(self, told.points, len(table))
            just(self, told.moves, tuple(tuple(line[member] for line in table.lines) for member in leading(table)))
            just(self, told.order(), len(table))

    def test_known_groups(self):
        just(self, (moves_of(ONE).points, moves_of(ONE).moves), (1, ()))
        just(self, moves_of(Table(FOUR)).moves, ((1, 0, 3, 2), (2, 3, 0, 1)))
        just(self, moves_of(Table(cyclic(3))).moves, ((1, 2, 0),))
        # Member 1 stands behind: what 2 and 1 make is where its move leads 2.
        just(self, moves_of(THREE).moves[0][2], THREE.lines[2][1])

    def test_and_back(self):
        for table in TABLES + GREAT_TABLES:
            self.assertEqual(table_of(moves_of(table)), table)

    def test_refused(self):
        refuse_tables(self, moves_of)
        self.assertEqual(by_place_and_name(self, moves_of, table=Table(TWO)), Moves(2, ((1, 0),)))


class TableOfRulesTest(unittest.TestCase):
    """[15]"""

    def test_known_groups(self):
        for name, (letters, rules, many) in KNOWN_RULES.items():
            if many <= 48:
                told = table_of_rules(known(name))
                self.assertIs(type(told), Table)
                just(self, len(told), many)
                rows = NamingByHand(len(letters), rules, (), 400).rows(len(letters))
                just(self, told.lines, table_of_rows_by_hand(rows, len(letters)))

    def test_rules_hold(self):
        for name, of in [("twelve", "twelve"), ("twenty-four", "twenty-four"), ("turns of four", "dihedral 8"), ("eight", "dicyclic 8")]:
            alike(self, table_of_rules(known(name)), named(of))
        just(self, table_of_rules(cyclic_rules(48)).lines[1][:4], (1, 3, 0, 5))
        just(self, table_of_rules(Rules(("a",), ((1,) * 3,))).lines, ((0, 1, 2), (1, 2, 0), (2, 0, 1)))
        just(self, len(table_of_rules(cyclic_rules(48))), 48)

    def test_still_open_then_too_great(self):
        endless = Rules(("a", "b"), ((1, 2, -1, -2),))
        for call in (lambda: table_of_rules(endless), lambda: table_of_rules(endless, most=5000)):
            refused(self, StillOpen, call)
        refused(self, StillOpen, table_of_rules, known("sixty"), most=59)
        refused(self, StillOpen, table_of_rules, known("twelve"), most=11)
        for rules, many in [(known("sixty"), 60), (cyclic_rules(49), 49), (known("hundred and sixty-eight"), 168)]:
            error = refused(self, TooGreat, table_of_rules, rules)
            just(self, (error.many, error.most), (many, 48))

    def test_most(self):
        rules = cyclic_rules(12)
        self.assertEqual(table_of_rules(rules, most=12), table_of_rules(rules))
        refused(self, StillOpen, table_of_rules, rules, most=11)
        self.assertEqual(table_of_rules(rules, most=5000), table_of_rules(rules, most=2000))
        for thing in NO_MOST:
            refused(self, NoNumber, table_of_rules, rules, most=thing)
            refused(self, NoNumber, table_of_rules, known("sixty"), most=thing)
            refused(self, NoNumber, table_of_rules, Rules(("a",), ()), most=thing)
        with self.assertRaises(TypeError):
            table_of_rules(rules, 12)

    def test_no_rules(self):
        for thing in NO_RULES:
            self.assertIsNone(refused(self, NoRules, table_of_rules, thing).place)
            self.assertIsNone(refused(self, NoRules, table_of_rules, thing, most=0).place)

    def test_by_place_and_by_name(self):
        self.assertEqual(by_place_and_name(self, table_of_rules, rules=cyclic_rules(2)), Table(TWO))
        self.assertEqual(table_of_rules(most=2, rules=cyclic_rules(2)), Table(TWO))


class RulesOfTest(unittest.TestCase):
    """[15]"""

    def test_by_hand(self):
        for table in TABLES + GREAT_TABLES:
            told = rules_of(table)
            self.assertIs(type(told), Rules)
            just(self, (told.letters, told.rules), rules_by_hand(table))

    def test_known_groups(self):
        just(self, str(rules_of(ONE)), "a: a")
        just(self, str(rules_of(Table(TWO))), "a: a^2")
        just(self, str(rules_of(Table(cyclic(3)))), "a: a^3")
        just(self, str(rules_of(Table(cyclic(5)))), "a: a^5")
        just(self, rules_of(Table(FOUR)).rules, ((1, 1), (2, 1, -2, -1), (2, 2), (1, 2, 1, -2), (1, 2, 2, -1)))
        just(self, str(rules_of(Table(FOUR))), "a b: a^2, b a b^-1 a^-1, b^2, a b a b^-1, a b^2 a^-1")

    def test_each_once_freed_and_not_empty(self):
        for table in TABLES:
            rules = rules_of(table).rules
            just(self, len(set(rules)), len(rules))
            for rule in rules:
                self.assertTrue(rule)
                self.assertTrue(all(one != -other for one, other in zip(rule, rule[1:])))

    def test_refused(self):
        refuse_tables(self, rules_of)
        self.assertEqual(by_place_and_name(self, rules_of, table=Table(TWO)), Rules(("a",), ((1, 1),)))


class DoingOfTest(unittest.TestCase):
    """[15]"""

    def test_moves(self):
        just(self, doing_of(ONE), ((0,),))
        for table in TABLES + GREAT_TABLES:
            if len(table) > 1:
                just(self, doing_of(table), moves_of(table).moves)
            just(self, broken(rules_of(table), doing_of(table)), None)

    def test_refused(self):
        refuse_tables(self, doing_of)
        just(self, by_place_and_name(self, doing_of, table=Table(cyclic(3))), ((1, 2, 0),))


class TurnedTest(unittest.TestCase):
    """[1], [3], [15]: from each telling to the others and on, alike what it was, by a map that is told."""

    def test_from_tables(self):
        for table in TABLES + GREAT_TABLES:
            by_words = table_of_rules(rules_of(table))
            alike(self, table, by_words)
            alike(self, table, table_of(moves_of(by_words)))
            alike(self, by_words, table_of_rules(rules_of(table_of(moves_of(by_words)))))

    def test_from_moves(self):
        for group in [group for group, members in SMALL if len(members) <= 48] + [FORTY_EIGHT]:
            table = table_of(group)
            turned = table_of(moves_of(table_of_rules(rules_of(table))))
            alike(self, table, turned)
            just(self, moves_of(turned).order(), group.order())

    def test_from_rules(self):
        for name in KNOWN_RULES:
            if KNOWN_RULES[name][2] <= 48:
                table = table_of_rules(known(name))
                turned = table_of_rules(rules_of(table_of(moves_of(table))))
                alike(self, table, turned)

    def test_letters_are_the_leading_members(self):
        for table in TABLES:
            rules = rules_of(table)
            just(self, len(rules.letters), max(1, len(leading(table))))
            for place, member in enumerate(leading(table)):
                just(self, order(moves_lines(doing_of(table)[place]), 1) if len(table) > 1 else 1, order(table.lines, member))


def moves_lines(move):
    """Lines of the powers of a move, the move itself as member 1."""
    many, at = 1, move
    while at != tuple(range(len(move))):
        at = tuple(move[image] for image in at)
        many += 1
    return cyclic(many)


if __name__ == "__main__":
    unittest.main()
