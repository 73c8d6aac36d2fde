"""A slow judge by hand, word by word as the document tells; and claims and papers bent at each place."""

from movegroups.bounds import MOST_MOVES, MOST_RULES, MOST_SUBS
from movegroups.errors import GroupError
from movegroups.likeness import counts, likeness
from movegroups.lists import groups_of
from movegroups.moves import is_move, rest, then, undo
from movegroups.recipes import made_by
from movegroups.rules import Rules, broken, led
from movegroups.subs import subs
from movegroups.tables import Table, fault

from tests.groups import NamingByHand
from tests.kit import Loud
from tests.lines import is_sub, keeps

WORDS = ("order", "orders", "classes", "centre", "derived")


def whole(thing):
    return type(thing) is int


def part(thing, many):
    """A rising tuple of unlike members."""
    return type(thing) is tuple and all(whole(one) and 0 <= one < many for one in thing) and list(thing) == sorted(set(thing))


def images(thing, one, other):
    return type(thing) is tuple and len(thing) == len(one) and all(whole(to) and 0 <= to < len(other) for to in thing)


def takes_by_hand(claim, paper):
    """Whether the judge takes the claim with its paper."""
    if type(claim) is not tuple or not claim or type(claim[0]) is not str:
        return False
    word, told = claim[0], claim[1:]
    judges = {
        "member": (3, of_moves), "order": (3, of_moves), "no member": (3, of_moves), "index": (4, of_words), "equal": (4, of_words), "apart": (4, of_words),
        "group": (1, of_table), "sub": (2, of_table), "normal": (2, of_table), "subs": (2, of_table), "hom": (3, of_two), "alike": (2, of_two),
        "unlike": (2, of_two), "list": (2, of_list)}
    if word not in judges or len(told) != judges[word][0]:
        return False
    try:
        return judges[word][1](word, paper, *told)
    except GroupError:
        return False


def of_moves(word, paper, points, moves, told):
    rest(points)
    if type(moves) is not tuple or len(moves) > MOST_MOVES or not all(is_move(move) and len(move) == points for move in moves):
        return False
    if word != "order" and not (is_move(told) and len(told) == points):
        return False
    if word == "member":
        made = made_by(paper, moves, points)
        return len(made) > 0 and made[-1] == told
    if type(paper) is not tuple or len(paper) != 2 or type(paper[1]) is not tuple or len(paper[1]) != points:
        return False
    made = made_by(paper[0], moves, points)
    levels = []
    for point, level in enumerate(paper[1]):
        if type(level) is not tuple or not all(type(pair) is tuple and len(pair) == 2 and all(map(whole, pair)) for pair in level):
            return False
        if not part(tuple(image for image, _ in level), points) or point not in dict(level):
            return False
        if not all(0 <= step < len(made) and made[step][:point + 1] == tuple(range(point)) + (image,) for image, step in level):
            return False
        levels.append({image: made[step] for image, step in level})

    def through(move, first):
        for point in range(first, points):
            if move[point] not in levels[point]:
                return False
            move = then(move, undo(levels[point][move[point]]))
        return move == rest(points)

    order = 1
    for point, level in enumerate(levels):
        order *= len(level)
        others = [move for behind in levels[point:] for move in behind.values()]
        if not all(through(then(move, other), point) for move in level.values() for other in others):
            return False
    if not all(through(move, 0) for move in moves):
        return False
    return whole(told) and told == order if word == "order" else not through(told, 0)


class Walked(NamingByHand):
    """Names by the steps of a trace."""

    def __init__(self, letters, rules, subs):
        self.most, self.many, self.open = 10 ** 9, 1, False
        self.told, self.fallen, self.trace, self.images = set(), set(), [], {}
        self.letters, self.rules, self.subs = letters, rules, subs

    def step(self, step):
        """Do the step, if it can be done; tell whether it did something."""
        if type(step) is not tuple or not step or type(step[0]) is not str or not all(map(whole, step[1:])):
            return False
        word, numbers = step[0], step[1:]
        if word == "sub":
            return len(numbers) == 1 and 0 <= numbers[0] < len(self.subs) and self.along(0, self.subs[numbers[0]])
        if len(numbers) != 2 or not 0 <= numbers[0] < self.many or numbers[0] in self.fallen:
            return False
        name, number = numbers
        if word == "rule":
            return 0 <= number < len(self.rules) and self.along(name, self.rules[number])
        if word != "new" or not 1 <= abs(number) <= self.letters or (name, number) in self.images:
            return False
        self.new(name, number)
        return True

    def along(self, name, word):
        front, ahead, behind, end = name, 0, name, len(word)
        while ahead < len(word) and (front, word[ahead]) in self.images:
            front, ahead = self.images[front, word[ahead]], ahead + 1
        while end > ahead and (behind, -word[end - 1]) in self.images:
            behind, end = self.images[behind, -word[end - 1]], end - 1
        if end - ahead == 1:
            self.put(front, word[ahead], behind)
        elif end == ahead and front != behind:
            self.let_fall(front, behind)
        else:
            return False
        return True

    def to(self, name, word):
        for letter in word:
            name = self.images.get((name, letter))
        return name


def is_word(thing, letters):
    return type(thing) is tuple and len(thing) <= 400 and all(whole(letter) and 1 <= abs(letter) <= letters for letter in thing)


def of_words(word, paper, letters, rules, one, other):
    group = Rules(letters, rules)
    many = len(letters)
    assert len(rules) <= MOST_RULES
    if word == "index":
        if type(one) is not tuple or len(one) > MOST_SUBS or not all(is_word(each, many) for each in one):
            return False
    elif not is_word(one, many) or not is_word(other, many):
        return False
    if word == "apart":
        return broken(group, paper) is None and led(group, one, paper) != led(group, other, paper)
    walk = Walked(many, rules, one if word == "index" else ())
    if type(paper) is not tuple or not all(walk.step(step) for step in paper):
        return False
    if word == "equal":
        return walk.to(0, one) is not None and walk.to(0, one) == walk.to(0, other)
    left = [name for name in range(walk.many) if name not in walk.fallen]
    turns = [turn for letter in range(1, many + 1) for turn in (letter, -letter)]
    if not all((name, turn) in walk.images for name in left for turn in turns):
        return False
    if not all(walk.to(name, rule) == name for name in left for rule in rules) or not all(walk.to(0, sub) == 0 for sub in one):
        return False
    return whole(other) and other == len(left)


def of_table(word, paper, lines, told=None):
    if paper is not None or fault(lines) is not None:
        return False
    if word == "group":
        return True
    if word == "subs":
        return len(lines) <= 16 and whole(told) and told == len(subs(Table(lines)))
    if not part(told, len(lines)) or not is_sub(lines, told):
        return False
    both = [({lines[one][by] for one in told}, {lines[by][one] for one in told}) for by in range(len(lines))]
    return word == "sub" or all(left == right for left, right in both)


def of_two(word, paper, one, other, led=None):
    if fault(one) is not None or fault(other) is not None:
        return False
    if word == "hom":
        return paper is None and images(led, one, other) and keeps(one, other, led)
    if word == "alike":
        return images(paper, one, other) and keeps(one, other, paper) and sorted(paper) == list(range(len(other)))
    if type(paper) is not str:
        return False
    both = list(zip(counts(Table(one)), counts(Table(other))))
    if paper in WORDS:
        first, second = both[WORDS.index(paper)]
        return first != second
    return paper == "search" and likeness(Table(one), Table(other)) == ("search",)


def of_list(word, paper, many, told):
    if paper is not None or not whole(many) or not 1 <= many <= 8 or type(told) is not tuple:
        return False
    if not all(fault(lines) is None and len(lines) == many for lines in told):
        return False
    groups = groups_of(many)
    alike = [[likeness(table, Table(lines))[0] == "map" for lines in told] for table in groups]
    return len(told) == len(groups) and all(row.count(True) == 1 for row in alike)


def bent(thing):
    """The thing bent at one place, in all ways."""
    others = [None, True, False, (), "", [thing], (thing,), -1, 10 ** 39, b"", {0: 0}, Loud()]
    if isinstance(thing, bool) or thing is None:
        others += [0, 1, "None"]
    elif isinstance(thing, int):
        others += [thing + 1, thing - 1, -thing, str(thing), thing == 1]
    elif isinstance(thing, str):
        others += [thing + " ", thing.upper(), "member", "search", "order", "derived", "classes", "rest", "undo", "rule", "new", "a"]
    elif isinstance(thing, tuple):
        others += [list(thing), thing[1:], thing[:-1], thing + thing[-1:], thing + (0,), thing + (None,), thing[::-1], set(map(repr, thing))]
        for at, each in enumerate(thing):
            others += [thing[:at] + (other,) + thing[at + 1:] for other in bent(each)]
    return others
