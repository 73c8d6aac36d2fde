"""Lines of groups known beforehand, and slow ways by hand to what the program tells of tables."""

import itertools
import random

from movegroups.tables import Table

from tests.groups import least_words_by_hand


def cyclic(many):
    return tuple(tuple((one + other) % many for other in range(many)) for one in range(many))


def lines_of(doing):
    """The lines of the group that the moves make, by their ranks."""
    members = sorted(least_words_by_hand(doing))
    number = {move: place for place, move in enumerate(members)}
    return tuple(tuple(number[tuple(other[image] for image in one)] for other in members) for one in members)


def turned(many, by, times, over=0):
    """Lines of (A, K), numbered K times MANY and A: A from a round of MANY, K of TIMES, which leads A to BY times A;

    the second one, TIMES times, is OVER.
    """
    pairs = [(a, k) for k in range(times) for a in range(many)]

    def made(one, other):
        (a, j), (b, k) = one, other
        return (j + k) % times * many + (a + by ** j * b + (over if j + k >= times else 0)) % many

    return tuple(tuple(made(one, other) for other in pairs) for one in pairs)


def dihedral(many):
    return turned(many, many - 1, 2)


def dicyclic(many):
    return turned(2 * many, 2 * many - 1, 2, many)


def paired(one, other):
    many = len(other)
    pairs = [(a, b) for a in range(len(one)) for b in range(many)]
    return tuple(tuple(one[a][c] * many + other[b][d] for c, d in pairs) for a, b in pairs)


def renamed(lines, seed):
    """The lines with members but 0 called otherwise."""
    names = list(range(1, len(lines)))
    random.Random(seed).shuffle(names)
    return called(lines, [0] + names)


def called(lines, names):
    """The lines where member A is called NAMES[A]."""
    told = [[0] * len(lines) for _ in lines]
    for one, other in itertools.product(range(len(lines)), repeat=2):
        told[names[one]][names[other]] = names[lines[one][other]]
    return tuple(tuple(row) for row in told)


ONE, TWO, FOUR = cyclic(1), cyclic(2), paired(cyclic(2), cyclic(2))
TWELVE = lines_of(((1, 0, 3, 2), (0, 2, 3, 1)))
TWENTY_FOUR = lines_of(((1, 0, 2, 3), (0, 2, 3, 1)))


def special():
    """Of the eight pairs over three that aren't (0, 0): all moves by sheets whose turning sign is 1."""
    rows = [(x, y) for x in range(3) for y in range(3) if x or y]
    by = [lambda x, y: ((x + y) % 3, y), lambda x, y: (x, (x + y) % 3)]
    return lines_of(tuple(tuple(rows.index(sheet(*row)) for row in rows) for sheet in by))


# By name, one group each, of orders 1 to 24.
KNOWN = {f"cyclic {many}": cyclic(many) for many in range(1, 25)}
KNOWN.update({f"dihedral {2 * many}": dihedral(many) for many in range(3, 13)})
KNOWN.update({f"dicyclic {4 * many}": dicyclic(many) for many in range(2, 7)})
KNOWN.update({
    "four": FOUR, "twos": paired(TWO, FOUR), "all twos": paired(FOUR, FOUR), "threes": paired(cyclic(3), cyclic(3)),
    "twelve": TWELVE, "twenty-four": TWENTY_FOUR, "four and two": paired(cyclic(4), TWO), "fours": paired(cyclic(4), cyclic(4)),
    "four by four": turned(4, 3, 4), "eight and two": paired(dicyclic(2), TWO), "eight by two": turned(8, 5, 2),
    "half turned": turned(8, 3, 2), "five by four": turned(5, 2, 4), "seven by three": turned(7, 2, 3),
    "three by eight": turned(3, 2, 8), "twelve and two": paired(TWELVE, TWO), "six and two": paired(cyclic(6), TWO),
    "special": special(), "turns and three": paired(dihedral(3), cyclic(3)), "turns and four": paired(dihedral(4), TWO),
})
# The same, also with members called otherwise.
TABLES = [Table(lines) for lines in KNOWN.values()]
TABLES += [Table(renamed(lines, seed)) for seed, lines in enumerate(KNOWN.values())]
# Orders above 24.
GREAT = {
    "cyclic 25": cyclic(25), "cyclic 47": cyclic(47), "cyclic 48": cyclic(48), "dihedral 48": dihedral(24),
    "dicyclic 48": dicyclic(12), "twenty-four and two": paired(TWENTY_FOUR, TWO), "twelve and four": paired(TWELVE, FOUR),
    "all twos and three": paired(paired(FOUR, FOUR), cyclic(3)), "five twos": paired(paired(FOUR, FOUR), TWO),
}
GREAT_TABLES = [Table(lines) for lines in GREAT.values()]
GREAT_TABLES += [Table(renamed(lines, seed)) for seed, lines in enumerate(GREAT.values())]


def named(name):
    """The Table of a known group."""
    return Table(KNOWN[name] if name in KNOWN else GREAT[name])


def back_of(lines, one):
    return [other for other in range(len(lines)) if lines[one][other] == 0][0]


def made(lines, *members):
    """What the members make in their turn."""
    told = 0
    for member in members:
        told = lines[told][member]
    return told


def order(lines, one):
    return [many for many in range(1, len(lines) + 1) if made(lines, *[one] * many) == 0][0]


def is_sub(lines, part):
    return 0 in part and all(lines[one][other] in part for one in part for other in part)


def closed(lines, part):
    """The members that rows of PART make, by going round till nothing new comes."""
    told = {0} | set(part)
    while True:
        further = told | {lines[one][other] for one in told for other in told}
        if further == told:
            return tuple(sorted(told))
        told = further


def keeps(lines, others, images):
    all_of = range(len(lines))
    return all(images[lines[one][other]] == others[images[one]][images[other]] for one in all_of for other in all_of)


def subs_by_hand(lines):
    """All SUBs, by going through all PARTs."""
    rest = range(1, len(lines))
    parts = [(0,) + part for many in range(len(lines)) for part in itertools.combinations(rest, many)]
    return tuple(part for part in parts if len(lines) % len(part) == 0 and is_sub(lines, part))


def homs_by_hand(lines, others):
    """All maps that keep what two make, by going through all tuples of images."""
    tuples = itertools.product(range(len(others)), repeat=len(lines))
    return tuple(images for images in tuples if keeps(lines, others, images))
