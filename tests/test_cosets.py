import random
import unittest

from movegroups.cosets import Cosets
from movegroups.errors import NoLarge, NoNumber, NoRow, NoRules, NoWord, StillOpen
from movegroups.rules import Rules, broken

from tests.groups import AB, KNOWN, NamingByHand, cyclic, known, less_key, make
from tests.kit import NUMBERS, ODD, TEXTS, just, refused
from tests.test_rules import NO_RULES_OBJECTS
from tests.test_words import NO_WORD_THINGS, all_words

NO_ROWS = [-1, 6, 7, 10 ** 39, -10 ** 39] + ODD + TEXTS


def told(cosets):
    return cosets.closed(), cosets.made(), cosets.trace()


def by_hand(rules, subs=(), most=2000):
    hand = NamingByHand(len(rules.letters), rules.rules, subs, most)
    return (not hand.open, hand.many, tuple(hand.trace)), hand


def chance_words(chance, many, letters, longest):
    return tuple(
        tuple(chance.choice((1, -1)) * chance.randint(1, letters) for _ in range(chance.randint(0, longest)))
        for _ in range(many))


class MakingTest(unittest.TestCase):
    """[10], [12]: names, how many, and what was done."""

    def test_one_letter(self):
        cosets = Cosets(Rules(("a",), ((1, 1, 1),)))
        just(self, told(cosets), (True, 3, (("new", 0, 1), ("new", 1, 1), ("rule", 0, 0))))
        cosets = Cosets(Rules(("a",), ((1,),)))
        just(self, told(cosets), (True, 1, (("rule", 0, 0),)))

    def test_new_name_by_the_back(self):
        cosets = Cosets(Rules(("a",), ()), most=4)
        just(self, told(cosets), (False, 4, (("new", 0, 1), ("new", 0, -1), ("new", 1, 1))))

    def test_turns_of_three(self):
        just(self, told(Cosets(known("turns of three"))), (True, 6, (
            ("new", 0, 1), ("rule", 0, 0), ("new", 0, 2), ("new", 2, 2), ("rule", 0, 1), ("new", 1, 2), ("rule", 0, 2),
            ("new", 4, 2), ("rule", 1, 1), ("rule", 1, 2), ("rule", 2, 0), ("rule", 3, 0))))

    def test_subs_come_first_at_nothing(self):
        cosets = Cosets(known("turns of three"), ((2,),))
        just(self, cosets.trace()[0], ("sub", 0))
        just(self, told(cosets), (True, 2, (("sub", 0), ("new", 0, 1), ("rule", 0, 0), ("rule", 0, 2))))
        cosets = Cosets(known("turns of three"), ((1, 1, 1), (), (1,), (2, -2)))
        self.assertEqual([step for step in cosets.trace() if step[0] == "sub"], [("sub", 0), ("sub", 2)])

    def test_names_that_all_fall(self):
        rules = Rules(("a",), ((1,) * 5, (1,) * 7))
        just(self, told(Cosets(rules)), (True, 5, (
            ("new", 0, 1), ("new", 1, 1), ("new", 2, 1), ("new", 3, 1), ("rule", 0, 0), ("rule", 0, 1))))
        self.assertEqual(Cosets(rules).index(), 1)
        just(self, Cosets(rules).rows(), ((0, 0),))

    def test_word_that_takes_itself_back(self):
        just(self, told(Cosets(Rules(("a",), ((1, -1), (1, 1))))), (True, 2, (("new", 0, 1), ("rule", 0, 1))))
        just(self, told(Cosets(Rules(("a",), ((-1, 1), (1, 1))))), (True, 2, (("new", 0, -1), ("rule", 0, 1))))

    def test_known_groups_as_by_hand(self):
        for name, (letters, rules, many) in KNOWN.items():
            if many <= 60:
                for subs in [(), ((1,),), ((), (1, -1), (-1, -1)), ((1, 1), (len(letters),))]:
                    hand, _ = by_hand(known(name), subs)
                    just(self, told(Cosets(known(name), subs)), hand)

    def test_rules_by_chance_as_by_hand(self):
        chance = random.Random(10)
        closed = opened = fell = 0
        for _ in range(600):
            letters = chance.randint(1, 3)
            rules = Rules(("a", "b", "c")[:letters], chance_words(chance, chance.randint(0, 6), letters, 6))
            subs = chance_words(chance, chance.randint(0, 2), letters, 5)
            most = chance.choice((1, 2, 5, 12, 40))
            hand, naming = by_hand(rules, subs, most)
            cosets = Cosets(rules, subs, most=most)
            just(self, told(cosets), hand)
            if hand[0]:
                just(self, cosets.rows(), naming.rows(letters))
                closed += 1
                fell += hand[1] > cosets.index() > 1
            else:
                opened += 1
        self.assertGreater(min(closed, opened), 100)
        self.assertGreater(fell, 20)

    def test_falls_by_chance_as_by_hand(self):
        chance = random.Random(12)
        fell = 0
        for _ in range(40):
            extra = chance_words(chance, 2, 2, 14)
            rules = Rules(AB, ((1,) * chance.randint(2, 4), (2,) * chance.randint(2, 4), (1, 2) * chance.randint(2, 4)) + extra)
            hand, naming = by_hand(rules, (), 60)
            cosets = Cosets(rules, most=60)
            just(self, told(cosets), hand)
            if hand[0]:
                just(self, cosets.rows(), naming.rows(2))
                fell += len(naming.fallen) > 5
        self.assertGreater(fell, 5)

    def test_just_as_many_names_and_one_fewer(self):
        for name in KNOWN:
            whole = Cosets(known(name))
            just(self, told(Cosets(known(name), most=whole.made())), told(whole))
            if whole.made() > 1:
                less = Cosets(known(name), most=whole.made() - 1)
                self.assertIs(less.closed(), False)
                just(self, less.made(), whole.made() - 1)
                just(self, less.trace(), whole.trace()[:len(less.trace())])
                just(self, whole.trace()[len(less.trace())][0], "new")

    def test_most(self):
        just(self, told(Cosets(Rules(("a",), ()), most=1)), (False, 1, ()))
        just(self, Cosets(Rules(("a",), ())).made(), 2000)
        just(self, Cosets(Rules(("a",), ()), most=5000).made(), 5000)
        just(self, told(Cosets(Rules(("a",), ((1,),)), most=1))[:2], (True, 1))
        just(self, Cosets(Rules(("a",), ((1,) * 400,)), most=400).closed(), True)
        just(self, Cosets(Rules(("a",), ((1,) * 400,)), most=399).closed(), False)
        for most in [0, -1, 5001, 10 ** 39, "5", 5.0] + ODD + TEXTS:
            refused(self, NoNumber, Cosets, known("two"), most=most)

    def test_nothing_changes_by_the_default(self):
        just(self, told(Cosets(known("sixty"))), told(Cosets(known("sixty"), (), most=2000)))

    def test_eight_subs_and_nine(self):
        for many in range(9):
            just(self, Cosets(known("seven"), ((1,),) * many).index(), 1 if many else 7)
        refused(self, NoWord, Cosets, known("seven"), ((1,),) * 9)
        refused(self, NoWord, Cosets, known("seven"), ((),) * 9)

    def test_no_subs(self):
        for thing in NO_WORD_THINGS + [(3,)]:
            refused(self, NoWord, Cosets, known("four"), (thing,))
            refused(self, NoWord, Cosets, known("four"), ((1,), thing))
        for thing in [[], [(1,)], "a", None, {}, (1, 2), ((1,), 2), True, 1]:
            refused(self, NoWord, Cosets, known("four"), thing)

    def test_no_rules_object(self):
        for thing in NO_RULES_OBJECTS:
            self.assertIsNone(refused(self, NoRules, Cosets, thing).place)

    def test_first_from_the_left_is_refused(self):
        refused(self, NoRules, Cosets, None, None, most=None)
        refused(self, NoRules, Cosets, (), ((0,),), most=0)
        refused(self, NoWord, Cosets, known("four"), ((0,),), most=0)
        refused(self, NoWord, Cosets, known("four"), None, most=True)

    def test_by_place_and_by_name(self):
        one = Cosets(known("turns of three"), ((1,),), most=100)
        other = Cosets(most=100, subs=((1,),), rules=known("turns of three"))
        just(self, told(one), told(other))
        just(self, one.row_of((2,)), one.row_of(word=(2,)))
        just(self, one.path(2), one.path(row=2))
        with self.assertRaises(TypeError):
            Cosets(known("two"), (), 100)


class RowsTest(unittest.TestCase):
    """[11]: closed ones, and their rows."""

    def test_index_of_known_groups(self):
        for name, (_, _, many) in KNOWN.items():
            cosets = Cosets(known(name))
            self.assertIs(cosets.closed(), True)
            just(self, cosets.index(), many)
            just(self, len(cosets), many)
            just(self, len(cosets.rows()), many)

    def test_index_of_parts(self):
        for name, subs, many in [
            ("turns of three", ((1,),), 3), ("turns of three", ((2,),), 2), ("turns of three", ((1,), (2,)), 1),
            ("sixty", ((1,),), 30), ("sixty", ((2,),), 20), ("sixty", ((1, 2),), 12), ("sixty", ((1,), (2, 1, -2)), 6),
            ("twenty-four", ((1, 2), ), 6), ("all of five", ((1,), (2,), (3,)), 5), ("all of five", ((1,), (3,)), 30),
            ("hundred and sixty-eight", ((1, 2),), 24), ("eight", ((1, 1),), 4),
        ]:
            just(self, Cosets(known(name), subs).index(), many)

    def test_rows_of_turns_of_three(self):
        cosets = Cosets(known("turns of three"))
        just(self, cosets.rows(), ((1, 1, 2, 3), (0, 0, 4, 5), (5, 5, 3, 0), (4, 4, 0, 2), (3, 3, 5, 1), (2, 2, 1, 4)))
        just(self, cosets.doing(), ((1, 0, 5, 4, 3, 2), (2, 4, 3, 0, 5, 1)))

    def test_rows_are_numbered_as_they_are_met(self):
        for name in KNOWN:
            for subs in ((), ((1,),)):
                rows = Cosets(known(name), subs).rows()
                met = [0]
                for row in rows:
                    met += [image for place, image in enumerate(row) if image not in met and image not in row[:place]]
                self.assertEqual(met, list(range(len(rows))))
                for number, row in enumerate(rows):
                    for place, image in enumerate(row):
                        self.assertEqual(rows[image][place ^ 1], number)

    def test_all_rules_close(self):
        for name, (_, rules, _) in KNOWN.items():
            for subs in ((), ((1,),), ((1, 1), (-1,))):
                cosets = Cosets(known(name), subs)
                if cosets.index() <= 60:
                    self.assertIsNone(broken(known(name), cosets.doing()))
                for word in subs:
                    self.assertEqual(cosets.row_of(word), 0)
                for word in rules:
                    if len(word) <= 200:
                        self.assertEqual(cosets.row_of(word + word), 0)

    def test_doing(self):
        for name in ("one", "turns of four", "sixty"):
            cosets = Cosets(known(name))
            rows = cosets.rows()
            just(self, cosets.doing(), tuple(tuple(row[2 * k] for row in rows) for k in range(len(known(name).letters))))

    def test_sixty_rows_and_sixty_one(self):
        just(self, Cosets(cyclic(60)).doing()[0][0], 1)
        refused(self, NoLarge, Cosets(cyclic(61)).doing)
        just(self, Cosets(cyclic(61)).index(), 61)
        refused(self, NoLarge, Cosets(known("all of five")).doing)

    def test_row_of(self):
        for name in ("turns of three", "eight", "twelve", "sixty"):
            cosets = Cosets(known(name))
            doing = cosets.doing()
            for word in all_words(2, 4):
                just(self, cosets.row_of(word), make(word, doing)[0])
        just(self, Cosets(known("seven")).row_of(()), 0)
        just(self, Cosets(known("seven")).row_of((1,) * 400), (Cosets(known("seven")).row_of((1,) * (400 % 7))))

    def test_words_to_one_row_are_one(self):
        cosets = Cosets(known("turns of four"))
        corners = ((1, 0, 3, 2), (1, 2, 3, 0))
        self.assertEqual(make((2,) * 4, corners), make((1, 2) * 2, corners))
        for one in all_words(2, 4):
            for other in ((), (1,), (2, 2), (1, 2)):
                same = make(one, corners) == make(other, corners)
                self.assertIs(cosets.row_of(one) == cosets.row_of(other), same)

    def test_paths_are_least(self):
        for name in ("seven", "turns of three", "turns of four", "eight", "twelve"):
            for subs in ((), ((1,),), ((len(known(name).letters),) * 2,)):
                cosets = Cosets(known(name), subs)
                least = {}
                for word in sorted(all_words(len(known(name).letters), 5), key=less_key):
                    least.setdefault(cosets.row_of(word), word)
                for row in range(cosets.index()):
                    just(self, cosets.path(row), least[row])

    def test_paths_of_more(self):
        for name in ("sixty", "all of five", "hundred and sixty-eight"):
            cosets = Cosets(known(name))
            paths = [cosets.path(row) for row in range(cosets.index())]
            self.assertEqual(paths, sorted(paths, key=less_key))
            self.assertEqual([cosets.row_of(path) for path in paths], list(range(cosets.index())))

    def test_longest_paths(self):
        cosets = Cosets(cyclic(400))
        just(self, [cosets.path(row) for row in (1, 2, 399, 398)], [(1,), (-1,), (1,) * 200, (-1,) * 199])
        cosets = Cosets(cyclic(1000), most=5000)
        just(self, cosets.index(), 1000)
        for row in range(0, 1000, 71):
            just(self, cosets.row_of(cosets.path(row)), row)

    def test_no_row(self):
        cosets = Cosets(known("turns of three"))
        for thing in NO_ROWS:
            refused(self, NoRow, cosets.path, thing)
        refused(self, NoRow, Cosets(known("one")).path, 1)
        just(self, Cosets(known("one")).path(0), ())

    def test_no_word(self):
        cosets = Cosets(known("turns of three"))
        for thing in NO_WORD_THINGS + [(3,), (1, -3)]:
            refused(self, NoWord, cosets.row_of, thing)

    def test_open_ones(self):
        for cosets in [Cosets(Rules(("a",), ())), Cosets(known("sixty"), most=20), Cosets(Rules(AB, ((1, 1),)), ((2,),), most=1)]:
            self.assertIs(cosets.closed(), False)
            for call in (cosets.index, cosets.rows, cosets.doing, cosets.__len__):
                refused(self, StillOpen, call)
            for thing in [(1,), 0, 1] + NO_WORD_THINGS + NO_ROWS:
                refused(self, StillOpen, cosets.row_of, thing)
                refused(self, StillOpen, cosets.path, thing)
            with self.assertRaises(StillOpen):
                len(cosets)

    def test_the_same_in_any_turn_of_the_questions(self):
        cosets = Cosets(known("turns of four"), ((1,),))
        asked = [
            cosets.closed, cosets.made, cosets.index, cosets.rows, cosets.doing, cosets.trace, cosets.__len__,
            lambda: cosets.row_of((2, 1)), lambda: cosets.path(3),
        ]
        first = [call() for call in asked]
        for shift in range(len(asked)):
            turn = asked[shift:] + asked[:shift]
            self.assertEqual([call() for call in turn], first[shift:] + first[:shift])
        refused(self, NoRow, cosets.path, 99)
        refused(self, NoWord, cosets.row_of, (9,))
        self.assertEqual([call() for call in asked[::-1]], first[::-1])

    def test_kinds_of_what_is_told(self):
        cosets = Cosets(known("turns of four"))
        self.assertIs(type(cosets.rows()), tuple)
        self.assertTrue(all(type(row) is tuple for row in cosets.rows()))
        self.assertTrue(all(type(step) is tuple for step in cosets.trace()))
        self.assertIs(type(cosets.trace()), tuple)
        self.assertIs(type(cosets.path(3)), tuple)


class TraceTest(unittest.TestCase):
    """[12]: gone along again, each step does something, and nothing lacks."""

    def test_steps_lead_to_the_rows(self):
        for name in ("turns of three", "eight", "twenty-four", "hidden one", "six letters"):
            letters, rules, many = KNOWN[name]
            subs = ((1, 1),)
            cosets = Cosets(known(name), subs)
            replay = NamingByHand(len(letters), (), (), 1)
            replay.open, replay.most, replay.trace = False, 5000, []
            for step in cosets.trace():
                ahead = set(replay.told)
                if step[0] == "new":
                    self.assertNotIn(step[1:], replay.images)
                    replay.new(*step[1:])
                else:
                    word, name_at = (subs[step[1]], 0) if step[0] == "sub" else (rules[step[2]], step[1])
                    self.assertNotIn(name_at, replay.fallen)
                    replay.make_whole(name_at, word, step)
                self.assertNotEqual(replay.told, ahead)
            just(self, tuple(replay.trace), cosets.trace())
            just(self, replay.rows(len(letters)), cosets.rows())


if __name__ == "__main__":
    unittest.main()
