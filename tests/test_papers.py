import random
import unittest

from movegroups.blocks import united
from movegroups.chains import Moves
from movegroups.cosets import Cosets
from movegroups.errors import NoGroup, NoMove, NoNumber, NoPoints, NoRules, NoTable, NoWord, StillOpen, TooGreat
from movegroups.judge import holds
from movegroups.likeness import likeness
from movegroups.lists import groups_of
from movegroups.papers import paper_index, paper_likeness, paper_list, paper_member, paper_order, paper_subs, paper_words
from movegroups.recipes import slimmed
from movegroups.rules import Rules
from movegroups.subs import subs
from movegroups.tables import Table

from tests.groups import KNOWN as KNOWN_RULES
from tests.groups import cyclic as cyclic_rules, known
from tests.judging import takes_by_hand
from tests.kit import NUMBERS, ODD, TEXTS, by_place_and_name, just, refused
from tests.lines import FOUR, KNOWN, TABLES, TWO, cyclic, dihedral, named, paired, renamed, subs_by_hand
from tests.test_chains import ALL, NO_MOVES, SMALL, by_rounds, shuffled, turn_of
from tests.test_turning import NO_GROUPS, NO_MOST, NO_RULES
from tests.wrong import NO_TABLES, refuse_tables

ENDLESS = Rules(("a", "b"), ((1, 2, -1, -2),))
CONTRARY = {"member": "no member", "no member": "member", "equal": "apart", "apart": "equal", "alike": "unlike", "unlike": "alike"}


def is_taken(case, told, claim):
    """The claim is told, and taken with its paper; with it the contrary isn't."""
    case.assertIs(type(told), tuple)
    just(case, len(told), 2)
    just(case, told[0], claim)
    case.assertIs(holds(*told), True)
    if claim[0] in CONTRARY:
        case.assertIs(holds((CONTRARY[claim[0]],) + claim[1:], told[1]), False)
    elif type(claim[-1]) is int:
        for other in (claim[-1] + 1, claim[-1] - 1, 2 * claim[-1], 0):
            case.assertIs(holds(claim[:-1] + (other,), told[1]), False)


class MovesTest(unittest.TestCase):
    """[31]"""

    def test_member(self):
        chance = random.Random(31)
        for group, members in SMALL:
            moves = [shuffled(chance, group.points) for _ in range(6)] + chance.sample(members, min(4, len(members)))
            for move in moves:
                word = "member" if move in members else "no member"
                told = paper_member(group, move)
                is_taken(self, told, (word, group.points, group.moves, move))
                if group.points <= 4:
                    self.assertIs(takes_by_hand(*told), True)
                if word == "member":
                    just(self, told[1], group.recipe(move))

    def test_order(self):
        for group, members in SMALL:
            told = paper_order(group)
            is_taken(self, told, ("order", group.points, group.moves, len(members)))
            recipe, levels = told[1]
            just(self, [[image for image, _ in level] for level in levels], [list(group.orbit(point, point)) for point in range(group.points)])
            # No step is there for nothing, and the last one is some lead's.
            if len(recipe) > 1:
                just(self, max(step for level in levels for _, step in level), len(recipe) - 1)
                just(self, slimmed(recipe)[-1][0], recipe[-1][0])
            if group.points <= 4:
                self.assertIs(takes_by_hand(*told), True)

    def test_known_groups(self):
        just(self, paper_order(Moves(1, ())), (("order", 1, (), 1), ((("rest",),), (((0, 0),),))))
        just(self, paper_member(Moves(1, ()), (0,)), (("member", 1, (), (0,)), (("rest",),)))
        just(self, paper_member(Moves(2, ()), (1, 0))[0], ("no member", 2, (), (1, 0)))
        eleven = by_rounds(11, "(0 1 2 3 4 5 6 7 8 9 10)", "(2 6 10 7)(3 9 4 5)")
        is_taken(self, paper_order(eleven), ("order", 11, eleven.moves, 7920))
        is_taken(self, paper_member(eleven, turn_of(11, 0, 1)), ("no member", 11, eleven.moves, turn_of(11, 0, 1)))
        turn = Moves(60, (turn_of(60, 0, 59),))
        is_taken(self, paper_order(turn), ("order", 60, turn.moves, 60))
        is_taken(self, paper_member(turn, turn.member(59)), ("member", 60, turn.moves, turn.member(59)))
        is_taken(self, paper_member(ALL, turn_of(60, 7, 30)), ("member", 60, ALL.moves, turn_of(60, 7, 30)))
        many = Moves(8, tuple(turn_of(8, 0, last % 7) for last in range(100)))
        is_taken(self, paper_order(many), ("order", 8, many.moves, 5040))
        is_taken(self, paper_order(united(many, Moves(8, (turn_of(8, 6, 7),)))), ("order", 8, united(many, Moves(8, (turn_of(8, 6, 7),))).moves, 40320))

    def test_refused(self):
        group = by_rounds(4, "(0 1 2)")
        for thing in NO_MOVES + [(0, 1, 2, 2), [0, 1, 2, 3]]:
            refused(self, NoMove, paper_member, group, thing)
        for move in [(0,), (1, 2, 0), (1, 0, 2, 3, 4), tuple(range(60))]:
            refused(self, NoPoints, paper_member, group, move)
        for thing in NO_GROUPS:
            refused(self, NoGroup, paper_member, thing, (0,))
            refused(self, NoGroup, paper_member, thing, None)
            refused(self, NoGroup, paper_order, thing)
        by_place_and_name(self, paper_member, group=group, move=(1, 2, 0, 3))
        by_place_and_name(self, paper_order, group=group)


class WordsTest(unittest.TestCase):
    """[31]"""

    def test_index(self):
        for name, (letters, rules, _) in KNOWN_RULES.items():
            for subs_of in [(), ((1,),), ((1, -1), ()), ((-1,) * 3, (1, 1))]:
                cosets = Cosets(known(name), subs_of)
                told = paper_index(cosets)
                is_taken(self, told, ("index", letters, rules, subs_of, len(cosets)))
                just(self, told[1], cosets.trace())
        is_taken(self, paper_index(Cosets(cyclic_rules(1), ((1,),))), ("index", ("a",), ((1,),), ((1,),), 1))
        by_place_and_name(self, paper_index, cosets=Cosets(cyclic_rules(3)))
        for thing in [cyclic_rules(3), None, ((0, 0),), "index"]:
            refused(self, NoGroup, paper_index, thing)

    def test_index_by_chance(self):
        chance = random.Random(32)
        closed = 0
        for _ in range(200):
            letters = chance.choice((1, 2, 2, 3))
            turns = [turn for turn in range(-letters, letters + 1) if turn]
            words = [tuple(chance.choice(turns) for _ in range(chance.randrange(7))) for _ in range(chance.randint(2, 6))]
            rules, some = Rules(tuple("abc"[:letters]), tuple(words[1:])), tuple(words[:chance.randrange(2)])
            cosets = Cosets(rules, some, most=300)
            if cosets.closed():
                closed += 1
                is_taken(self, paper_index(cosets), ("index", rules.letters, rules.rules, some, len(cosets)))
            else:
                refused(self, StillOpen, paper_index, cosets)
        self.assertGreater(closed, 40)

    def test_words(self):
        chance = random.Random(33)
        for name, (letters, rules, many) in KNOWN_RULES.items():
            if many <= 60:
                cosets, met = Cosets(known(name)), set()
                turns = [turn for turn in range(-len(letters), len(letters) + 1) if turn]
                for _ in range(8):
                    one, other = [tuple(chance.choice(turns) for _ in range(chance.randrange(6))) for _ in range(2)]
                    for first, second in [(one, other), (one, cosets.path(cosets.row_of(one)))]:
                        word = "equal" if cosets.row_of(first) == cosets.row_of(second) else "apart"
                        told = paper_words(known(name), first, second)
                        is_taken(self, told, (word, letters, rules, first, second))
                        just(self, told[1], cosets.trace() if word == "equal" else cosets.doing())
                        met.add(word)
                self.assertEqual(met, {"equal", "apart"} if many > 1 else {"equal"})

    def test_words_refused(self):
        rules = known("turns of three")
        for thing in NO_RULES:
            self.assertIsNone(refused(self, NoRules, paper_words, thing, (), ()).place)
            self.assertIsNone(refused(self, NoRules, paper_words, thing, None, None, most=0).place)
        for thing in [(0,), (3,), (-3,), [1], (True,), (1,) * 401, "a", (1, None)] + [thing for thing in ODD if thing not in [()]] + TEXTS + NUMBERS:
            refused(self, NoWord, paper_words, rules, thing, ())
            refused(self, NoWord, paper_words, rules, (1,), thing)
            refused(self, NoWord, paper_words, rules, thing, None, most=0)
            refused(self, NoWord, paper_words, ENDLESS, (), thing, most=0)
            refused(self, NoWord, paper_words, ENDLESS, thing, (), most=0)
        for thing in NO_MOST:
            refused(self, NoNumber, paper_words, rules, (1,), (2,), most=thing)
            refused(self, NoNumber, paper_words, ENDLESS, (1,), (1,), most=thing)
        with self.assertRaises(TypeError):
            paper_words(rules, (1,), (2,), 100)

    def test_still_open(self):
        for words in [((1,), (2,)), ((1,), (1,)), ((), ())]:
            refused(self, StillOpen, paper_words, ENDLESS, *words)
            refused(self, StillOpen, paper_words, ENDLESS, *words, most=5000)
            refused(self, StillOpen, paper_words, cyclic_rules(61), (1,), ())
            refused(self, StillOpen, paper_words, cyclic_rules(61), (1,), (1,))
        refused(self, StillOpen, paper_words, cyclic_rules(12), (1,), (), most=11)
        refused(self, StillOpen, paper_index, Cosets(ENDLESS))
        is_taken(self, paper_words(cyclic_rules(60), (1,), ()), ("apart", ("a",), ((1,) * 60,), (1,), ()))
        is_taken(self, paper_words(cyclic_rules(12), (1,) * 11, (-1,), most=12), ("equal", ("a",), ((1,) * 12,), (1,) * 11, (-1,)))
        by_place_and_name(self, paper_words, rules=cyclic_rules(2), one=(1,), other=(-1,))


class TablesTest(unittest.TestCase):
    """[31]"""

    def test_likeness(self):
        met = set()
        chance = random.Random(34)
        tables = TABLES[:len(KNOWN)]
        pairs = [(one, other) for one in tables for other in tables if len(one) == len(other)]
        for one, other in chance.sample(pairs, 120) + [(Table(TWO), Table(FOUR)), (named("four by four"), named("eight and two"))]:
            other = Table(renamed(other.lines, chance.randrange(99)))
            told = likeness(one, other)
            claim = ("alike" if told[0] == "map" else "unlike", one.lines, other.lines)
            paper = paper_likeness(one, other)
            is_taken(self, paper, claim)
            just(self, paper[1], "search" if told[0] == "search" else told[1])
            met.add(paper[1] if claim[0] == "unlike" else "map")
        self.assertEqual(met, {"map", "order", "orders", "classes", "search"})

    def test_likeness_refused(self):
        refuse_tables(self, paper_likeness, Table(TWO))
        for thing in NO_TABLES:
            self.assertIsNone(refused(self, NoTable, paper_likeness, Table(TWO), thing).fault)
        by_place_and_name(self, paper_likeness, one=Table(TWO), other=Table(cyclic(3)))

    def test_subs(self):
        for table in TABLES:
            if len(table) <= 16:
                is_taken(self, paper_subs(table), ("subs", table.lines, len(subs(table))))
            if len(table) <= 8:
                just(self, paper_subs(table)[0][2], len(subs_by_hand(table.lines)))
            if len(table) > 16:
                error = refused(self, TooGreat, paper_subs, table)
                just(self, (error.many, error.most), (len(table), 16))
        is_taken(self, paper_subs(Table(paired(FOUR, FOUR))), ("subs", paired(FOUR, FOUR), 67))
        just(self, paper_subs(Table(cyclic(1))), (("subs", ((0,),), 1), None))
        refuse_tables(self, paper_subs)
        for lines in (cyclic(17), cyclic(48), dihedral(9)):
            error = refused(self, TooGreat, paper_subs, Table(lines))
            just(self, (error.many, error.most), (len(lines), 16))
        by_place_and_name(self, paper_subs, table=Table(TWO))

    def test_list(self):
        for many in range(1, 9):
            told = paper_list(many)
            is_taken(self, told, ("list", many, tuple(table.lines for table in groups_of(many))))
            just(self, told[1], None)
            for lines in told[0][2]:
                less = tuple(other for other in told[0][2] if other != lines)
                self.assertIs(holds(("list", many, less), None), False)
        for thing in [0, -1, -10 ** 39] + ODD + TEXTS:
            refused(self, NoNumber, paper_list, thing)
        for many in (9, 16, 24, 25, 10 ** 39):
            error = refused(self, TooGreat, paper_list, many)
            just(self, (error.many, error.most), (many, 8))
        by_place_and_name(self, paper_list, many=4)

    def test_told_again(self):
        group, table, rules = by_rounds(4, "(0 1 2 3)", "(0 2)"), named("dihedral 8"), known("turns of three")
        calls = [lambda: paper_order(group), lambda: paper_member(group, (1, 0, 2, 3)), lambda: paper_words(rules, (1,), (2,)), lambda: paper_subs(table),
                 lambda: paper_likeness(table, table), lambda: paper_index(Cosets(rules, ((1,),))), lambda: paper_list(6)]
        told = [call() for call in calls]
        just(self, [call() for call in calls], told)


if __name__ == "__main__":
    unittest.main()
