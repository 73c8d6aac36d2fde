"""The counts of a group that the judge makes itself."""

from movegroups.judge_search import spanned

WORDS = ("order", "orders", "classes", "centre", "derived")


def count(word, lines):
    """The count of this WORD."""
    if word == "order":
        return len(lines)
    if word == "orders":
        return _orders(lines, list(range(len(lines))))
    if word == "classes":
        return _classes(lines)
    if word == "centre":
        return _orders(lines, _centre(lines))
    return _derived(lines)


def _order(lines, member):
    return len(spanned(lines, (member,)))


def _orders(lines, members):
    """How many of MEMBERS have each order."""
    many = {}
    for member in members:
        order = _order(lines, member)
        many[order] = many.get(order, 0) + 1
    return many


def _classes(lines):
    """The order and the length of each class, rising."""
    found = {}
    for member in range(len(lines)):
        part = sorted({lines[lines[line.index(0)][member]][by] for by, line in enumerate(lines)})
        found[part[0]] = (_order(lines, member), len(part))
    return sorted(list(found.values()))


def _centre(lines):
    both = [[line[member] for line in lines] for member in range(len(lines))]
    return [member for member, line in enumerate(lines) if list(line) == both[member]]


def _derived(lines):
    """How long all is, and what commutators of all make, and of these, and so on."""
    lengths = []
    part = tuple(range(len(lines)))
    while len(part) not in lengths:
        lengths.append(len(part))
        backs = [(member, lines[member].index(0)) for member in part]
        made = sorted({lines[lines[undo][back]][lines[one][other]] for one, undo in backs for other, back in backs})
        part = spanned(lines, made)
    return lengths
