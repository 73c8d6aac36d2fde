"""Groups known beforehand, and slow ways by hand to what the program tells."""

from movegroups.rules import Rules

AB = ("a", "b")

# By name: the letters, the rules, and how many members there are.
KNOWN = {
    "one": (("a",), ((1,),), 1),
    "two": (("a",), ((1, 1),), 2),
    "seven": (("z",), ((-1,) * 7,), 7),
    "four": (AB, ((1, 1), (2, 2), (1, 2, -1, -2)), 4),
    "turns of three": (AB, ((1, 1), (2, 2, 2), (1, 2) * 2), 6),
    "turns of four": (AB, ((2,) * 4, (1, 1), (1, 2) * 2), 8),
    "eight": (AB, ((1,) * 4, (1, 1, -2, -2), (-2, 1, 2, 1)), 8),
    "twelve": (AB, ((1, 1), (2, 2, 2), (1, 2) * 3), 12),
    "twenty-four": (AB, ((1, 1), (2, 2, 2), (1, 2) * 4), 24),
    "sixty": (AB, ((1, 1), (2, 2, 2), (1, 2) * 5), 60),
    "all of five": (("a", "b", "c", "d"), (
        (1, 1), (2, 2), (3, 3), (4, 4), (1, 2) * 3, (2, 3) * 3, (3, 4) * 3, (1, 3) * 2, (1, 4) * 2, (2, 4) * 2), 120),
    "hundred and sixty-eight": (AB, ((1, 1), (2, 2, 2), (1, 2) * 7, (-1, -2, 1, 2) * 4), 168),
    "hidden one": (AB, ((-1, 2, 1, -2, -2), (-2, 1, 2, -1, -1)), 1),
    "six letters": (("a", "b", "c", "d", "e", "f"), tuple((k, k) for k in range(1, 7)) + tuple(
        (1, -k) for k in range(2, 7)), 2),
}


def known(name):
    letters, rules, _ = KNOWN[name]
    return Rules(letters, rules)


def cyclic(many):
    """A Rules of MANY members by one letter."""
    if many <= 400:
        return Rules(("a",), ((1,) * many,))
    for first in range(400, 1, -1):
        if many % first == 0:
            return Rules(AB, ((1,) * (many // first) + (-2,), (2,) * first))
    raise AssertionError(f"no rules for {many}")


class NamingByHand:
    """The making of names as the document tells it, gone along anew each time, over a plain set of what is told."""

    def __init__(self, letters, rules, subs, most):
        self.most, self.many, self.open = most, 1, False
        self.told, self.fallen, self.trace, self.images = set(), set(), [], {}
        for place, word in enumerate(subs):
            self.make_whole(0, word, ("sub", place))
        name = 0
        while name < self.many and not self.open:
            for place, word in enumerate(rules):
                if name not in self.fallen:
                    self.make_whole(name, word, ("rule", name, place))
            for letter in range(1, letters + 1):
                for turn in (letter, -letter):
                    if name not in self.fallen and (name, turn) not in self.images:
                        self.new(name, turn)
            name += 1

    def put(self, name, letter, image):
        self.told |= {(name, letter, image), (image, -letter, name)}
        self.settle()

    def settle(self):
        self.images = {}
        for one, turn, other in sorted(self.told):
            if self.images.setdefault((one, turn), other) != other:
                self.let_fall(self.images[one, turn], other)
                return

    def let_fall(self, one, other):
        low, high = sorted((one, other))
        self.fallen.add(high)
        self.told = {(low if a == high else a, turn, low if b == high else b) for a, turn, b in self.told}
        self.settle()

    def new(self, name, letter):
        self.open = self.open or self.many == self.most
        if not self.open:
            self.trace.append(("new", name, letter))
            self.put(name, letter, self.many)
            self.many += 1

    def make_whole(self, name, word, step):
        while not self.open:
            front, ahead, behind, end = name, 0, name, len(word)
            while ahead < len(word) and (front, word[ahead]) in self.images:
                front, ahead = self.images[front, word[ahead]], ahead + 1
            while end > ahead and (behind, -word[end - 1]) in self.images:
                behind, end = self.images[behind, -word[end - 1]], end - 1
            if end - ahead > 1:
                self.new(front, word[ahead])
                continue
            if end - ahead == 1:
                self.put(front, word[ahead], behind)
            elif front != behind:
                self.let_fall(front, behind)
            else:
                return
            self.trace.append(step)
            return

    def rows(self, letters):
        """The rows, numbered as they are met."""
        turns = [turn for letter in range(1, letters + 1) for turn in (letter, -letter)]
        met, at = [0], 0
        while at < len(met):
            for turn in turns:
                image = self.images[met[at], turn]
                if image not in met:
                    met.append(image)
            at += 1
        return tuple(tuple(met.index(self.images[name, turn]) for turn in turns) for name in met)


def less_key(word):
    """By this words rise as by is_less."""
    return len(word), [(abs(letter), letter < 0) for letter in word]


def make(word, doing):
    """The move that WORD makes."""
    images = list(range(len(doing[0])))
    for letter in word:
        move = doing[abs(letter) - 1]
        images = [move[image] if letter > 0 else move.index(image) for image in images]
    return tuple(images)


def least_words_by_hand(doing):
    """The least word of each move that words by DOING make, rising; and the moves."""
    turns = [turn for letter in range(1, len(doing) + 1) for turn in (letter, -letter)]
    found = {make((), doing): ()}
    last = [()]
    while last:
        further = []
        for word in last:
            for turn in turns:
                move = make(word + (turn,), doing)
                if move not in found:
                    found[move] = word + (turn,)
                    further.append(word + (turn,))
        last = further
    return found
