import importlib
import inspect
import itertools
import random
import unittest

from movegroups import bounds, errors
from movegroups.chains import Moves
from movegroups.cosets import Cosets
from movegroups.desk import Desk
from movegroups.doings import core, doing_on, orbits_of, stayed
from movegroups.judge import holds
from movegroups.language import group_of, read_group, show_group
from movegroups.leasts import leasts, led_down, pairs
from movegroups.library import Library
from movegroups.likeness import likeness
from movegroups.lists import groups_of, named
from movegroups.moves import then
from movegroups.papers import paper_index, paper_likeness, paper_member, paper_order, paper_words
from movegroups.recipes import made_by
from movegroups.rules import Rules, broken, led
from movegroups.subs import leading, subs
from movegroups.tables import Table
from movegroups.turning import doing_of, moves_of, rules_of, table_of, table_of_rules

from tests.kit import just, refusal
from tests.lines import TWO, keeps, renamed
from tests.test_papers import is_taken

# By module: names and arguments, as the document's interface lists them.
CALLS = {
    "moves": "is_move(thing) rest(points) then(one,other) undo(one) raised(one,times) turns(one) rounds(one) sign(one) show_move(one) read_move(text,points)",
    "recipes": "made_by(recipe,moves,points) slimmed(recipe)",
    "chains": "Moves(points,moves)",
    "blocks": "orbits(group) blocks(group,one,other) stabilizer(group,points) renamed(group,move) united(one,other) is_part(one,other) closure(one,other)",
    "words": "freed(word) linked(one,other) backed(word) many_times(word,times) rounded(word) show_word(word,letters) read_word(text,letters) is_less(one,other)",
    "rules": "Rules(letters,rules) led(rules,word,doing) broken(rules,doing)",
    "cosets": "Cosets(rules,subs=(),*,most=2000)",
    "leasts": "leasts(rules,*,most=2000) pairs(rules,*,most=2000) led_down(word,pairs)",
    "tables": "Table(lines) fault(lines)",
    "turning": "table_of(group) moves_of(table) table_of_rules(rules,*,most=2000) rules_of(table) doing_of(table)",
    "members": "times(table,one,other) back(table,one) power(table,one,many) order_of(table,one) commutator(table,one,other) conjugate(table,one,by) "
               "orders(table) classes(table) centralizer(table,part) normalizer(table,part) centre(table)",
    "subs": "generated(table,part) leading(table) cosets(table,sub,*,left=False) is_normal(table,sub) subs(table) kinds_of_subs(table) normal_subs(table)",
    "series": "derived(table,sub) derived_series(table) lower_series(table)",
    "quotients": "sub_table(table,sub) quotient(table,sub) product(one,other)",
    "extensions": "extension(table,auto,member,prime)",
    "maps": "is_hom(one,other,images) kernel(one,other,images) image(one,other,images) homs(one,other) autos(table)",
    "likeness": "counts(table) likeness(one,other)",
    "lists": "groups_of(many) named(table)",
    "doings": "doing_on(table,sub) core(table,sub) stayed(doing) orbits_of(doing) holders(doing,point)",
    "language": "show_group(telling) read_group(text) group_of(telling,*,most=2000)",
    "library": "Library()",
    "judge": "holds(claim,paper)",
    "papers": "paper_member(group,move) paper_order(group) paper_index(cosets) paper_words(rules,one,other,*,most=2000) paper_likeness(one,other) "
              "paper_subs(table) paper_list(many)",
    "desk": "Desk()",
}
METHODS = {
    Moves: "order() has(move) orbit(point,fixed=0) least(images) strong() stops(move) rank(move) member(rank) recipe(move)",
    Cosets: "closed() made() index() rows() doing() row_of(word) path(row) trace()",
    Library: "keep(name,telling) part(name,group,members) lead(name,one,other,images) anew(group,telling,*,by=None) strike(name) back() names() kind(name) "
             "telling(name) table(name) part_of(name) map_of(name) led(name) asked(word,name) log()",
    Desk: "say(row)",
}
SMALL = [table for many in range(1, 17) for table in groups_of(many)]


def shape(call, first):
    """The call's name and arguments, those from FIRST on."""
    told, star = [], False
    for name, given in list(inspect.signature(call).parameters.items())[first:]:
        if given.kind == given.KEYWORD_ONLY and not star:
            told.append("*")
            star = True
        told.append(name if given.default is given.empty else f"{name}={given.default!r}")
    return f"{call.__name__}({','.join(told)})"


class InterfaceTest(unittest.TestCase):
    """The interface: each name stands in its module, with its arguments."""

    def test_calls(self):
        for module, calls in CALLS.items():
            whole = importlib.import_module(f"movegroups.{module}")
            for row in calls.split():
                call = getattr(whole, row.partition("(")[0])
                just(self, shape(call, 0), row)
                just(self, call.__module__, f"movegroups.{module}")

    def test_methods(self):
        for kind, calls in METHODS.items():
            for row in calls.split():
                self.assertIn(row.partition("(")[0], vars(kind))
                just(self, shape(vars(kind)[row.partition("(")[0]], 1), row)
        for kind, names in [(Moves, "__eq__ __repr__"), (Rules, "__eq__ __len__ __str__"), (Cosets, "__len__"), (Table, "__eq__ __len__ __repr__"), (Library, "__eq__ __len__")]:
            self.assertLessEqual(set(names.split()), set(vars(kind)))
        just(self, bounds.MOST, 2000)


class TellingsTest(unittest.TestCase):
    """[1], [3]: the three tellings of one group agree."""

    def test_turned_and_on(self):
        for table in SMALL + list(groups_of(18)) + list(groups_of(24)):
            tellings = [table, moves_of(table), rules_of(table)]
            tellings += [moves_of(table_of_rules(tellings[2])), rules_of(table_of(tellings[1])), Table(renamed(table.lines, 1))]
            tellings += [read_group(show_group(telling)) for telling in tellings]
            for telling in tellings:
                other = group_of(telling)
                word, images = likeness(table, other)
                just(self, word, "map")
                self.assertTrue(keeps(table.lines, other.lines, images))
                just(self, sorted(images), list(range(len(table))))

    def test_orders_agree(self):
        for table in SMALL:
            cosets = Cosets(rules_of(table))
            just(self, (moves_of(table).order(), cosets.index(), len(leasts(rules_of(table)))), (len(table),) * 3)
            just(self, broken(rules_of(table), doing_of(table)), None)
            just(self, len(stayed(doing_on(table, (0,)))), len(table))

    def test_least_words_are_led_to(self):
        chance = random.Random(3)
        for table in SMALL:
            rules = rules_of(table)
            cosets, words, exchanges = Cosets(rules), leasts(rules), pairs(rules)
            turns = [turn for turn in range(-len(rules.letters), len(rules.letters) + 1) if turn]
            for _ in range(3):
                word = tuple(chance.choice(turns) for _ in range(chance.randrange(9)))
                end = led_down(word, exchanges)[-1]
                just(self, end, words[cosets.row_of(word)])
                just(self, led(rules, word, doing_of(table)), led(rules, end, doing_of(table)))

    def test_parts_of_words_and_of_tables(self):
        # As many cosets of a part of words as members by those of the SUB that they generate.
        for table in SMALL:
            letters = leading(table)
            for many in range(len(letters) + 1):
                words = tuple((place + 1,) for place in range(many))
                moves = moves_of(table)
                sub = Moves(moves.points, moves.moves[:many])
                just(self, Cosets(rules_of(table), words).index() * sub.order(), len(table))

    def test_doings_are_moves_of_points(self):
        for table in SMALL:
            for sub in subs(table)[:6]:
                doing = doing_on(table, sub)
                made = Moves(len(doing[0]), doing)
                just(self, made.order() * len(core(table, sub)), len(table))
                just(self, len(orbits_of(doing)), 1)


class PapersTest(unittest.TestCase):
    """[3]: what is so has a paper, and the contrary claim isn't taken with it."""

    def test_two_groups(self):
        for one, other in itertools.product(SMALL, SMALL):
            if len(one) == len(other):
                claim, paper = paper_likeness(one, other)
                is_taken(self, (claim, paper), ("alike" if one is other else "unlike", one.lines, other.lines))

    def test_moves_and_words(self):
        chance = random.Random(30)
        for table in SMALL:
            group, rules = moves_of(table), rules_of(table)
            is_taken(self, paper_order(group), ("order", group.points, group.moves, len(table)))
            move = group.member(chance.randrange(len(table)))
            is_taken(self, paper_member(group, move), ("member", group.points, group.moves, move))
            just(self, made_by(group.recipe(move), group.moves, group.points)[-1], move)
            if group.points > 2:
                swap = tuple([1, 0] + list(range(2, group.points)))
                is_taken(self, paper_member(group, then(move, swap)), ("no member", group.points, group.moves, then(move, swap)))
            is_taken(self, paper_index(Cosets(rules)), ("index", rules.letters, rules.rules, (), len(table)))
            one, other = leasts(rules)[-1], leasts(rules)[0]
            word = "equal" if len(table) == 1 else "apart"
            is_taken(self, paper_words(rules, one, other), (word, rules.letters, rules.rules, one, other))

    def test_whatever_is_taken_is_so(self):
        # One paper for all claims: of these the true one alone is taken.
        for table in SMALL[:12]:
            group = moves_of(table)
            paper = paper_order(group)[1]
            just(self, [many for many in range(30) if holds(("order", group.points, group.moves, many), paper)], [len(table)])
            trace = paper_index(Cosets(rules_of(table)))[1]
            rules = rules_of(table)
            just(self, [many for many in range(30) if holds(("index", rules.letters, rules.rules, (), many), trace)], [len(table)])
            just(self, [many for many in range(30) if holds(("subs", table.lines, many), None)], [len(subs(table))])


class LibraryTest(unittest.TestCase):
    """[3]: a library tells what it told, led over, however often groups are told anew."""

    def test_anew_by_all_tellings(self):
        for table in SMALL[3::4]:
            library = Library()
            library.keep("g", table)
            told = {}
            for place, sub in enumerate(subs(table)[:6]):
                told["abcdef"[place]] = library.part("abcdef"[place], "g", sub)
            for telling in [moves_of(table), show_group(rules_of(table)), Table(renamed(table.lines, 5)), show_group(moves_of(table)), table]:
                library.anew("g", telling)
            images = library.led("g")
            self.assertTrue(keeps(table.lines, library.table("g").lines, images))
            for name, sub in told.items():
                just(self, library.part_of(name), ("g", tuple(sorted(images[member] for member in sub))))
            just(self, named(library.table("g"))[0], named(table)[0])


class RefusalsTest(unittest.TestCase):
    """[2]: a refusal's class stands under its family and under no other one; what is refused changes nothing."""

    def test_families(self):
        desk, library = Desk(), Library()
        library.keep("g", Table(TWO))
        calls = [
            (errors.GroupError, lambda: desk.say("x")), (errors.LostError, lambda: desk.say("order x")), (errors.LimitError, lambda: desk.say("back")),
            (errors.GroupError, lambda: library.keep("X", Table(TWO))), (errors.LimitError, lambda: library.keep("g", Table(TWO))),
            (errors.LostError, lambda: library.kind("x")), (errors.GroupError, lambda: groups_of(0)), (errors.LimitError, lambda: groups_of(25)),
            (errors.GroupError, lambda: read_group("x")), (errors.LimitError, lambda: table_of_rules(Rules(("a",), ()))),
            (errors.GroupError, lambda: library.asked("x", "g")), (errors.GroupError, lambda: library.anew("g", "table: 0"))]
        for family, call in calls:
            error = refusal(call)
            for each in (errors.GroupError, errors.LostError, errors.LimitError):
                self.assertIs(isinstance(error, each), each is family)
        just(self, (library.names(), library.log()[1:], desk.say("names")), (("g",), (), "none"))

    def test_values_told_may_be_handed_in(self):
        table = groups_of(8)[2]
        just(self, show_group(read_group(show_group(table))), show_group(table))
        just(self, Moves(8, moves_of(table).strong()).order(), 8)
        just(self, holds(*paper_order(Moves(8, doing_of(table)))), True)
        self.assertEqual(Rules(rules_of(table).letters, rules_of(table).rules), rules_of(table))
        self.assertEqual(group_of(Table(table.lines)), table)


if __name__ == "__main__":
    unittest.main()
