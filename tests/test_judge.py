import ast
import itertools
import os
import random
import unittest

from movegroups.blocks import orbits
from movegroups.chains import Moves
from movegroups.cosets import Cosets
from movegroups.judge import holds
from movegroups.likeness import counts, likeness
from movegroups.lists import groups_of
from movegroups.maps import homs
from movegroups.moves import rest, then, undo
from movegroups.papers import paper_index, paper_likeness, paper_order
from movegroups.quotients import product
from movegroups.rules import Rules
from movegroups.subs import subs
from movegroups.tables import Table

from tests.groups import known
from tests.judging import bent, takes_by_hand
from tests.kit import NUMBERS, ODD, TEXTS, Loud, by_place_and_name, just, nested
from tests.lines import FOUR, KNOWN, TABLES, TWELVE, TWO, cyclic, dicyclic, dihedral, lines_of, named, paired, renamed, special
from tests.test_chains import ALL, EVEN, by_rounds, shuffled, turn_of
from tests.test_form import FOLDER, trees

TURN, SWAP = (1, 2, 0), (1, 0, 2)
THREE = lines_of((TURN, SWAP))
# All moves of three points: a recipe of all leads by hand, and the levels.
RECIPE = (("rest",), ("move", 0), ("move", 1), ("undo", 1), ("then", 1, 2))
LEVELS = (((0, 0), (1, 1), (2, 3)), ((1, 0), (2, 4)), ((2, 0),))
AB = ("a", "b")
S3 = ((1, 1), (2, 2, 2), (1, 2, 1, 2))
# Of a^3: a new name by a, another one by that, and the rule shuts the round.
ROUND = (("new", 0, 1), ("new", 1, 1), ("rule", 0, 0))
# By the word a of the rules above, three cosets.
BY_A = (("sub", 0), ("new", 0, 2), ("new", 1, 2), ("rule", 0, 1), ("rule", 0, 2), ("rule", 1, 0))
RIGHT = [
    (("member", 3, (TURN, SWAP), (0, 2, 1)), (("move", 0), ("move", 1), ("then", 0, 1))),
    (("member", 3, (TURN,), (2, 0, 1)), (("move", 0), ("undo", 0))),
    (("member", 2, (), (0, 1)), (("rest",),)),
    (("order", 3, (TURN, SWAP), 6), (RECIPE, LEVELS)),
    (("order", 3, (TURN,), 3), ((("rest",), ("move", 0), ("undo", 1)), (((0, 0), (1, 1), (2, 2)), ((1, 0),), ((2, 0),)))),
    (("order", 1, (), 1), ((("rest",),), (((0, 0),),))),
    (("no member", 3, (TURN,), SWAP), ((("rest",), ("move", 0), ("undo", 1)), (((0, 0), (1, 1), (2, 2)), ((1, 0),), ((2, 0),)))),
    (("no member", 2, (), (1, 0)), ((("rest",),), (((0, 0),), ((1, 0),)))),
    (("index", ("a",), ((1, 1, 1),), (), 3), ROUND),
    (("index", ("a",), ((1, 1, 1),), ((1,),), 1), (("sub", 0),)),
    (("index", AB, S3, ((1,),), 3), BY_A),
    (("equal", ("a",), ((1, 1, 1),), (1, 1), (-1,)), ROUND),
    (("equal", AB, (), (1, 2, -2), (1,)), (("new", 0, 1), ("new", 1, 2))),
    (("equal", AB, S3, (), ()), ()),
    (("apart", ("a",), ((1, 1, 1),), (1,), (1, 1)), (TURN,)),
    (("apart", AB, S3, (1, 2), (2, 1)), (SWAP, TURN)),
    (("apart", AB, S3, (1,), ()), ((1, 0), (0, 1))),
    (("group", FOUR), None), (("group", ((0,),)), None), (("group", THREE), None),
    (("hom", THREE, TWO, (0, 1, 1, 0, 0, 1)), None), (("hom", TWO, FOUR, (0, 2)), None), (("hom", FOUR, TWO, (0, 0, 0, 0)), None),
    (("sub", THREE, (0, 1)), None), (("sub", FOUR, (0,)), None), (("normal", THREE, (0, 3, 4)), None), (("normal", FOUR, (0, 3)), None),
    (("alike", FOUR, FOUR), (0, 2, 3, 1)), (("alike", cyclic(3), cyclic(3)), (0, 2, 1)),
    (("unlike", FOUR, cyclic(4)), "orders"), (("unlike", FOUR, cyclic(4)), "classes"), (("unlike", FOUR, TWO), "order"),
    (("unlike", THREE, cyclic(6)), "centre"), (("unlike", THREE, cyclic(6)), "derived"),
    (("subs", FOUR, 5), None), (("subs", THREE, 6), None), (("list", 2, (TWO,)), None), (("list", 4, (FOUR, cyclic(4))), None), (("list", 4, (cyclic(4), FOUR)), None),
]


class TakesTest(unittest.TestCase):
    """[30]"""

    def test_right_papers(self):
        for claim, paper in RIGHT:
            self.assertIs(holds(claim, paper), True, (claim, paper))
            self.assertIs(takes_by_hand(claim, paper), True, (claim, paper))
            self.assertIs(by_place_and_name(self, holds, claim=claim, paper=paper), True)

    def test_bent_claims_and_papers(self):
        taken = 0
        for claim, paper in RIGHT:
            for each in bent(claim):
                told = holds(each, paper)
                self.assertIs(told, takes_by_hand(each, paper), (each, paper))
                taken += told
            for each in bent(paper):
                told = holds(claim, each)
                self.assertIs(told, takes_by_hand(claim, each), (claim, each))
                taken += told
        # Some are right all the same: a step more that does no harm, another word whose counts differ.
        self.assertGreater(taken, 20)

    def test_claims_and_papers_exchanged(self):
        for (claim, _), (_, paper) in itertools.product(RIGHT, RIGHT):
            self.assertIs(holds(claim, paper), takes_by_hand(claim, paper), (claim, paper))

    def test_things_of_any_kind(self):
        things = ODD + TEXTS + NUMBERS + [Loud(), nested(10), Table(TWO), Moves(1, ()), Rules(("a",), ()), ("member",), ("group",), ("group", Loud())]
        for thing in things:
            for claim, paper in RIGHT:
                for given in [(thing, paper), (claim, thing), (thing, thing), (claim[:1] + (thing,), paper), (claim[:-1] + (thing,), paper),
                              ((thing,) + claim[1:], paper), (claim[:2] + (thing,) + claim[3:], paper), (claim[:1] + (thing,) + claim[2:], paper)]:
                    told = holds(*given)
                    self.assertIn(told, (True, False))
                    self.assertIs(type(told), bool)
                    if told:
                        self.assertIs(takes_by_hand(*given), True, given)

    def test_told_again(self):
        for claim, paper in RIGHT * 2:
            self.assertIs(holds(claim, paper), True)


class MovesTest(unittest.TestCase):
    """[30]"""

    def test_orders_by_chance(self):
        """Levels by chance, of all steps that may stand there: taken just where all products come through."""
        chance = random.Random(30)
        met = {True: 0, False: 0}
        for _ in range(1500):
            points = chance.choice((2, 3, 3, 4, 4, 5))
            moves = tuple(shuffled(chance, points) for _ in range(chance.randrange(3)))
            recipe, made = [("rest",)] + [("move", at) for at in range(len(moves))], [rest(points)] + list(moves)
            while len(recipe) < 25:
                one, other = chance.randrange(len(made)), chance.randrange(len(made))
                recipe.append(("then", one, other))
                made.append(then(made[one], made[other]))
            order, levels = 1, []
            for point in range(points):
                fits = {}
                for step in chance.sample(range(len(made)), len(made)):
                    if made[step][:point] == tuple(range(point)) and (chance.random() < 0.97 or made[step] == rest(points)):
                        fits.setdefault(made[step][point], step)
                levels.append(tuple(sorted(fits.items())))
                order *= len(fits)
            paper = (tuple(recipe), tuple(levels))
            for claim in [("order", points, moves, order), ("no member", points, moves, shuffled(chance, points))]:
                told = holds(claim, paper)
                self.assertIs(told, takes_by_hand(claim, paper), (claim, paper))
                met[told] += 1
                if told and claim[0] == "order":
                    just(self, Moves(points, moves).order(), order)
                elif told:
                    just(self, Moves(points, moves).has(claim[3]), False)
        self.assertGreater(min(met.values()), 300)

    def test_own_moves_that_arent_rest(self):
        # The first point's own move may be any that leaves it, if the levels behind make it.
        own = (LEVELS[0][:0] + ((0, 4),) + LEVELS[0][1:],) + LEVELS[1:]
        for claim in [("order", 3, (TURN, SWAP), 6), ("order", 3, (TURN,), 6), ("order", 3, (TURN, SWAP), 3)]:
            self.assertIs(holds(claim, (RECIPE, own)), claim[2:] == ((TURN, SWAP), 6))
        recipe = (("rest",), ("move", 0))
        levels = (((0, 0),), ((1, 0), (2, 1)), ((2, 0),))
        self.assertIs(holds(("order", 3, ((0, 2, 1),), 2), (recipe, levels)), True)
        for levels in [(((0, 1),), ((1, 0),), ((2, 0),)), (((0, 1),), ((1, 0), (2, 1)), ((2, 0),)), (((0, 0),), ((1, 1),), ((2, 0),))]:
            claim = ("order", 3, ((0, 2, 1),), 2 if len(levels[1]) == 2 else 1)
            self.assertIs(holds(claim, (recipe, levels)), takes_by_hand(claim, (recipe, levels)))

    def test_levels_that_lack_something(self):
        # Each lead is right, but there are less than the group has.
        for levels, order in [((((0, 0), (1, 1), (2, 3)), ((1, 0),), ((2, 0),)), 3), ((((0, 0), (1, 1)), ((1, 0), (2, 4)), ((2, 0),)), 4),
                              ((((0, 0),), ((1, 0), (2, 4)), ((2, 0),)), 2), ((((0, 0), (1, 2)), ((1, 0),), ((2, 0),)), 2)]:
            self.assertIs(holds(("order", 3, (TURN, SWAP), order), (RECIPE, levels)), False)
            self.assertIs(holds(("order", 3, (), order), (RECIPE, levels)), False)
            self.assertIs(holds(("no member", 3, (TURN, SWAP), (2, 1, 0)), (RECIPE, levels)), False)

    def test_bounds(self):
        self.assertIs(holds(("order", 0, (), 1), ((("rest",),), ())), False)
        self.assertIs(holds(("member", 0, (), ()), (("rest",),)), False)
        for points in (59, 60, 61):
            recipe = (("rest",),)
            levels = tuple(((point, 0),) for point in range(points))
            there = points <= 60
            self.assertIs(holds(("member", points, (), tuple(range(points))), recipe), there)
            self.assertIs(holds(("order", points, (), 1), (recipe, levels)), there)
            self.assertIs(holds(("no member", points, (), turn_of(points, 0, 1)), (recipe, levels)), there)
        for many in (99, 100, 101):
            moves = ((1, 0),) * many
            levels = (((0, 0), (1, 1)), ((1, 0),))
            self.assertIs(holds(("member", 2, moves, (1, 0)), (("move", many - 1),)), many <= 100)
            self.assertIs(holds(("order", 2, moves, 2), ((("rest",), ("move", 0)), levels)), many <= 100)
            self.assertIs(holds(("no member", 2, ((0, 1),) * many, (1, 0)), ((("rest",),), (((0, 0),), ((1, 0),)))), many <= 100)

    def test_great_groups(self):
        _, paper = paper_order(EVEN)
        self.assertIs(holds(("no member", 60, EVEN.moves, turn_of(60, 3, 4)), paper), True)
        self.assertIs(holds(("order", 60, ALL.moves, EVEN.order()), paper), False)
        some = Moves(20, (turn_of(20, 0, 2), turn_of(20, 1, 19)))
        claim, paper = paper_order(some)
        self.assertIs(holds(claim, paper), True)
        self.assertIs(holds(claim[:3] + (2 * some.order(),), paper), False)
        swap = turn_of(20, 3, 4)
        self.assertIs(holds(("no member", 20, some.moves, swap), paper), True)
        self.assertIs(holds(("no member", 20, some.moves, then(swap, turn_of(20, 0, 1))), paper), False)

    def test_some_more_groups(self):
        for group in [by_rounds(11, "(0 1 2 3 4 5 6 7 8 9 10)", "(2 6 10 7)(3 9 4 5)"), by_rounds(8, "(0 1 2 3)(4 5 6 7)", "(0 4)"), Moves(7, ())]:
            claim, paper = paper_order(group)
            self.assertIs(takes_by_hand(claim, paper), True)
            self.assertIs(holds(claim, paper), True)
            self.assertGreater(len(orbits(group)), 0)


class WordsTest(unittest.TestCase):
    """[30]"""

    def test_traces_by_chance(self):
        """Traces of the house, bent and mixed by chance."""
        chance = random.Random(31)
        groups = [(known(name), sub) for name in ("four", "turns of three", "eight", "hidden one", "twelve") for sub in ((), ((1,),), ((2, 1), (1,)))]
        met = {True: 0, False: 0}
        for rules, sub in groups:
            claim, trace = paper_index(Cosets(rules, sub))
            self.assertIs(takes_by_hand(claim, trace), True)
            letters = len(rules.letters)
            for _ in range(60):
                steps = list(trace)
                for _ in range(chance.randrange(4)):
                    at = chance.randrange(len(steps) + 1)
                    names = range(-1, len(steps) + 2)
                    new = chance.choice([
                        ("new", chance.choice(names), chance.randint(-letters, letters)), ("rule", chance.choice(names), chance.randint(-1, len(rules))),
                        ("sub", chance.randint(-1, len(sub)))])
                    kind = chance.randrange(4)
                    if kind == 0:
                        steps = steps[:at] + [new] + steps[at:]
                    elif kind == 1:
                        steps = steps[:at] + steps[at + 1:]
                    elif kind == 2:
                        steps = steps[:at] + steps[at + 1:at + 2] + steps[at:at + 1] + steps[at + 2:]
                    else:
                        steps = steps[:at]
                words = [tuple(chance.choice([each for each in range(-letters, letters + 1) if each]) for _ in range(chance.randrange(5))) for _ in range(2)]
                claims = [claim, claim[:-1] + (claim[-1] + chance.choice((-1, 1)),), ("equal", rules.letters, rules.rules, *words)]
                for each in claims:
                    told = holds(each, tuple(steps))
                    self.assertIs(told, takes_by_hand(each, tuple(steps)), (each, steps))
                    met[told] += 1
        self.assertGreater(min(met.values()), 200)

    def test_walks_by_chance(self):
        """Steps by chance, each one that can be done, so that names fall together in all ways."""
        chance = random.Random(32)
        done = 0
        for _ in range(500):
            letters = chance.choice((1, 2, 2, 3))
            turns = [turn for turn in range(-letters, letters + 1) if turn]
            rules = tuple(tuple(chance.choice(turns) for _ in range(chance.randint(1, 4))) for _ in range(chance.randint(1, 3)))
            first = ("equal", tuple("abc"[:letters]), rules)
            trace = ()
            for at in range(26):
                # Many names first: so that a rule lets many of them fall together later.
                step = ("rule", chance.randrange(9), chance.randrange(len(rules)))
                if at < 12:
                    step = ("new", chance.randrange(6), chance.choice(turns))
                told = holds(first + ((), ()), trace + (step,))
                self.assertIs(told, takes_by_hand(first + ((), ()), trace + (step,)), (first, trace, step))
                if told:
                    trace += (step,)
                    done += at >= 12
            for _ in range(4):
                words = [tuple(chance.choice(turns) for _ in range(chance.randrange(5))) for _ in range(2)]
                self.assertIs(holds(first + tuple(words), trace), takes_by_hand(first + tuple(words), trace))
            each = ("index",) + first[1:] + ((), chance.randint(1, 3))
            self.assertIs(holds(each, trace), takes_by_hand(each, trace))
        self.assertGreater(done, 500)

    def test_doings_by_chance(self):
        chance = random.Random(33)
        met = {True: 0, False: 0}
        for _ in range(600):
            doing = tuple(shuffled(chance, chance.choice((3, 3, 3, 4))) for _ in range(2))
            words = [tuple(chance.choice((1, -1, 2, -2)) for _ in range(chance.randrange(4))) for _ in range(2)]
            for rules in [S3, (), ((1, 1), (2, 2))]:
                claim = ("apart", AB, rules, *words)
                told = holds(claim, doing)
                self.assertIs(told, takes_by_hand(claim, doing), (claim, doing))
                met[told] += 1
        self.assertGreater(min(met.values()), 100)

    def test_bounds(self):
        for many in (299, 300, 301):
            rules = ((1,),) * many
            self.assertIs(holds(("index", ("a",), rules, (), 1), (("rule", 0, many - 1),)), many <= 300)
            self.assertIs(holds(("equal", ("a",), rules, (1,), ()), (("rule", 0, many - 1),)), many <= 300)
            self.assertIs(holds(("apart", ("a",), ((1, 1),) * many, (1,), ()), ((1, 0),)), many <= 300)
        for many in (7, 8, 9):
            self.assertIs(holds(("index", ("a",), (), ((1,),) * many, 1), (("sub", many - 1),)), many <= 8)
        for length in (399, 400, 401):
            there = length <= 400
            word = (1, -1) * 200 + (1,)
            word = word[:length]
            end = () if length % 2 == 0 else (1,)
            self.assertIs(holds(("equal", ("a",), (), word, end), (("new", 0, 1),)), there)
            self.assertIs(holds(("equal", ("a",), (), end, word), (("new", 0, 1),)), there)
            self.assertIs(holds(("equal", ("a",), (word,), (1,), (1,)), (("new", 0, 1),)), there)
            self.assertIs(holds(("index", ("a",), ((1,),), (word,), 1), (("rule", 0, 0),)), there)
            self.assertIs(holds(("apart", ("a",), ((1, 1),), word, (1,) if length % 2 == 0 else ()), ((1, 0),)), there)
        for letters in ("abcdef", "abcdefg"):
            self.assertIs(holds(("equal", tuple(letters), (), (), ()), ()), len(letters) == 6)
        for letters in [(), ("a", "a"), ("A",), ("ab",), ("",), "a", ["a"], (1,)]:
            self.assertIs(holds(("equal", letters, (), (), ()), ()), False)
        for points in (60, 61):
            turn = turn_of(points, 0, points - 1)
            self.assertIs(holds(("apart", ("a",), (), (1,), ()), (turn,)), points == 60)

    def test_nothing_is_done_twice(self):
        claim = ("index", ("a",), ((1, 1, 1),), (), 3)
        for trace in [ROUND + (("rule", 0, 0),), ROUND + (("new", 2, 1),), (("rule", 0, 0),) + ROUND, ROUND[:1] + (("rule", 0, 0),) + ROUND[1:], ROUND[1:], ROUND[:2], ()]:
            self.assertIs(holds(claim, trace), False)
        # By other names it is done as well.
        self.assertIs(holds(claim, (("new", 0, -1), ("new", 0, 1), ("rule", 0, 0))), True)
        self.assertIs(holds(("equal",) + claim[1:3] + ((1,), (-1, -1)), ROUND[:2] + (("sub", 0),)), False)

    def test_a_name_that_has_fallen(self):
        rules = ((1,), (1, 1))
        start = (("new", 0, 1), ("rule", 0, 0))
        claim = ("equal", ("a",), rules, (1,), ())
        self.assertIs(holds(claim, start), True)
        for step in [("new", 1, 1), ("rule", 1, 0), ("rule", 1, 1), ("new", 1, -1), ("new", 2, 1), ("new", -1, 1), ("rule", 2, 1)]:
            self.assertIs(holds(claim, start + (step,)), False)


class TablesTest(unittest.TestCase):
    """[30]"""

    def test_groups(self):
        for lines in KNOWN.values():
            self.assertIs(holds(("group", lines), None), True)
        for many in (47, 48, 49):
            self.assertIs(holds(("group", cyclic(many)), None), many <= 48)
        for lines in [(), ((),), ((1,),), ((0, 1), (1, 1)), ((0, 0), (0, 0)), ((1, 0), (0, 1)), ((0, 1, 2), (1, 0, 0), (2, 0, 0)), ((0, 1), (1, 0), (0, 1)),
                      ((0, 1, 2, 3, 4), (1, 0, 3, 4, 2), (2, 4, 0, 1, 3), (3, 2, 4, 0, 1), (4, 3, 1, 2, 0)), ((0, 1), (0, 1)), ((0, 0), (1, 1))]:
            self.assertIs(holds(("group", lines), None), False)

    def test_lines_bent_at_one_place(self):
        for lines in (THREE, dihedral(4), cyclic(5)):
            for one, other, made in itertools.product(range(len(lines)), repeat=3):
                line = lines[one][:other] + (made,) + lines[one][other + 1:]
                each = lines[:one] + (line,) + lines[one + 1:]
                self.assertIs(holds(("group", each), None), each == lines)

    def test_maps(self):
        for one, other in [(cyclic(4), FOUR), (THREE, TWO), (TWO, cyclic(4)), (FOUR, FOUR), (cyclic(3), THREE), (cyclic(1), TWO)]:
            known_ones = homs(Table(one), Table(other))
            for images in itertools.product(range(len(other)), repeat=len(one)):
                self.assertIs(holds(("hom", one, other, images), None), images in known_ones)
                self.assertIs(holds(("alike", one, other), images), images in known_ones and len(set(images)) == len(one) == len(other))
        self.assertIs(holds(("hom", THREE, TWO, (0, 1, 1, 0, 0, 1)), (0, 1)), False)

    def test_parts(self):
        for lines in (THREE, dihedral(4), FOUR, cyclic(6)):
            for many in range(len(lines) + 1):
                for part in itertools.combinations(range(len(lines)), many):
                    self.assertIs(holds(("sub", lines, part), None), part in subs(Table(lines)))
                    self.assertIs(holds(("normal", lines, part), None), takes_by_hand(("normal", lines, part), None))
        for part in [(1, 0), (0, 0), (0, 3, 3), [0], (0, 6), (0, True), (False,), None, ()]:
            self.assertIs(holds(("sub", cyclic(6), part), None), False)
            self.assertIs(holds(("normal", cyclic(6), part), None), False)
        for paper in (0, (), False, "None"):
            for claim in [("sub", FOUR, (0,)), ("normal", FOUR, (0,)), ("group", FOUR), ("subs", FOUR, 5), ("list", 2, (TWO,)), ("hom", FOUR, FOUR, (0, 1, 2, 3))]:
                self.assertIs(holds(claim, paper), False)

    def test_unlike_by_each_count(self):
        words = ("order", "orders", "classes", "centre", "derived")
        tables = [table for table in TABLES if len(table) in (6, 8, 12, 16)] + [Table(special()), Table(TWELVE)]
        chance = random.Random(34)
        for one, other in chance.sample(list(itertools.product(tables, repeat=2)), 250):
            both = list(zip(words, counts(one), counts(other)))
            for word, first, second in both:
                self.assertIs(holds(("unlike", one.lines, other.lines), word), first != second)
            self.assertIs(holds(("unlike", one.lines, other.lines), "search"), likeness(one, other) == ("search",))
            for paper in ("", "Order", "lower", "counts", None, 0, ("order",), b"order", ["order"]):
                self.assertIs(holds(("unlike", one.lines, other.lines), paper), False)

    def test_search(self):
        for beside in (1, 2, 3):
            one, other = product(named("four by four"), Table(cyclic(beside))), product(Table(cyclic(beside)), named("eight and two"))
            for first, second in [(one, other), (other, one), (Table(renamed(one.lines, 3)), Table(renamed(other.lines, 4)))]:
                self.assertIs(holds(("unlike", first.lines, second.lines), "search"), True)
                self.assertIs(holds(("unlike", first.lines, first.lines), "search"), False)
                self.assertIs(holds(("unlike", first.lines, renamed(first.lines, 5)), "search"), False)
                for word in ("order", "orders", "classes", "centre", "derived", "", "lower", "counts", "Search", "search ", "map"):
                    self.assertIs(holds(("unlike", first.lines, second.lines), word), False)
        # Counts that differ are no search.
        self.assertIs(holds(("unlike", FOUR, cyclic(4)), "search"), False)
        self.assertIs(holds(("unlike", FOUR, TWO), "search"), False)

    def test_subs(self):
        for table in TABLES:
            many = len(subs(table))
            self.assertIs(holds(("subs", table.lines, many), None), len(table) <= 16)
            for other in (many + 1, many - 1, -many, True if many == 1 else 0, str(many), None):
                self.assertIs(holds(("subs", table.lines, other), None), False)
        self.assertIs(holds(("subs", paired(FOUR, FOUR), 67), None), True)
        self.assertIs(holds(("subs", cyclic(16), 5), None), True)
        self.assertIs(holds(("subs", cyclic(17), 2), None), False)
        self.assertIs(holds(("subs", ((0,),), True), None), False)

    def test_list(self):
        for many in range(1, 9):
            tables = tuple(table.lines for table in groups_of(many))
            for turn in itertools.permutations(tables):
                self.assertIs(holds(("list", many, turn), None), True)
            others = tuple(renamed(lines, many) for lines in tables)
            self.assertIs(holds(("list", many, others), None), True)
            self.assertIs(holds(("list", many, tables + others[:1]), None), False)
            self.assertIs(holds(("list", many, tables[1:]), None), False)
            self.assertIs(holds(("list", many, tables[:-1] + (cyclic(many % 8 + 1),)), None), False)
            if len(tables) > 1:
                self.assertIs(holds(("list", many, tables[:-1] + others[:1]), None), False)
                self.assertIs(holds(("list", many, others[:1] * len(tables)), None), False)
        for many in (9, 11, 13, 47):
            self.assertIs(holds(("list", many, (cyclic(many),)), None), False)
        self.assertIs(holds(("list", 9, (cyclic(9), paired(cyclic(3), cyclic(3)))), None), False)
        for many in (0, -1, True, None, "2", 2.5):
            self.assertIs(holds(("list", many, ()), None), False)
        self.assertIs(holds(("list", True, (((0,),),)), None), False)
        self.assertIs(holds(("list", 1, (((0,),),)), None), True)

    def test_known_pairs(self):
        for one, other in [(dihedral(4), dicyclic(2)), (cyclic(8), dihedral(4)), (THREE, dihedral(3)), (FOUR, renamed(FOUR, 1))]:
            claim, paper = paper_likeness(Table(one), Table(other))
            self.assertIs(holds(claim, paper), True)
            contrary = ("unlike" if claim[0] == "alike" else "alike",) + claim[1:]
            self.assertIs(holds(contrary, paper), False)


class OwnTest(unittest.TestCase):
    """[30]: the judge imports errors alone, and its own parts."""

    def test_imports(self):
        files = {f"movegroups.{name[:-3]}": tree for name, _, tree in trees()}
        further, met = ["movegroups.judge"], set()
        while further:
            name = further.pop()
            if name not in met:
                met.add(name)
                further += [node.module for node in ast.walk(files[name]) if isinstance(node, ast.ImportFrom)]
        for name in met:
            self.assertTrue(name == "movegroups.errors" or name.startswith("movegroups.judge"), name)
        # No one else imports the judge's parts.
        for name, tree in files.items():
            taken = {node.module for node in ast.walk(tree) if isinstance(node, ast.ImportFrom)}
            if name not in met:
                self.assertLessEqual(taken & met, {"movegroups.judge", "movegroups.errors"}, name)
        self.assertTrue(os.path.exists(os.path.join(FOLDER, "judge.py")))

    def test_papers_by_hand(self):
        self.assertIs(holds(("member", 3, (TURN,), undo(TURN)), (("move", 0), ("then", 0, 0))), True)
        self.assertIs(holds(("member", 3, (TURN,), undo(TURN)), ()), False)
        self.assertIs(holds(("member", 3, (TURN,), TURN), (("move", 0), ("then", 0, 1))), False)
        self.assertIs(holds(("member", 3, (TURN,), TURN), (("move", 0), ("undo", 1))), False)
        self.assertIs(holds(("member", 3, (TURN,), TURN), (("undo", 0), ("move", 0))), False)


if __name__ == "__main__":
    unittest.main()
