"""The searches that the judge walks itself: for maps both ways, for parts, for all groups of an order."""

from movegroups.judge_forms import is_group

MOST_LISTED = 8
MOST_PARTED = 16
PRIMES = (2, 3, 5, 7)


def spanned(lines, members):
    """All that rows of MEMBERS make, rising."""
    met = {0: True}
    further = [0]
    while further:
        line = lines[further.pop()]
        for member in members:
            if line[member] not in met:
                met[line[member]] = True
                further.append(line[member])
    return tuple(sorted(list(met)))


def has_subs(lines, many):
    """Whether the group has MANY parts that are groups, where it has few enough members for the search."""
    if len(lines) > MOST_PARTED:
        return False
    met = {(0,): True}
    further = [(0,)]
    # Each such part is made by a shorter one and a member more.
    while further:
        sub = further.pop()
        for member in range(len(lines)):
            greater = spanned(lines, sub + (member,))
            if greater not in met:
                met[greater] = True
                further.append(greater)
    return len(met) == many


def maps_on(one, other, first_alone):
    """All maps both ways from ONE to OTHER that keep what two make, or a first one alone."""
    leaders = _leaders(one)
    found = []
    further = [()] if len(one) == len(other) else []
    while further and not (found and first_alone):
        chosen = further.pop()
        images = _walked(one, other, leaders, chosen)
        if images is None:
            continue
        if len(chosen) < len(leaders):
            further.extend([chosen + (image,) for image in range(len(other))])
        else:
            found.append(images)
    return found


def is_list(many, tables):
    """Whether TABLES, groups of MANY members, are all groups of this order, each once."""
    groups = _groups_of(many)
    if len(tables) != len(groups):
        return False
    # As many as there are: so none is beside them, where each of them is there.
    return all([_is_alike_some(group, tables) for group in groups])


def _leaders(lines):
    """Members by which all are made: always the least one that the ones ahead don't make."""
    found = []
    made = spanned(lines, found)
    while len(made) < len(lines):
        found.append([member for member in range(len(lines)) if member not in made][0])
        made = spanned(lines, found)
    return found


def _walked(one, other, leaders, chosen):
    """The images of all that the first LEADERS make, where they are led to CHOSEN; None where that isn't both ways."""
    images = {0: 0}
    further = [0]
    while further:
        member = further.pop()
        for leader, image in zip(leaders, chosen):
            made = one[member][leader]
            led = other[images[member]][image]
            if made not in images and led != 0:
                images[made] = led
                further.append(made)
            # Two that are led to one would make one, but 0, that is led to 0.
            if made not in images or images[made] != led:
                return None
    return images


def _is_alike_some(group, tables):
    for table in tables:
        if maps_on(group, table, True):
            return True
    return False


def _groups_of(many):
    """All groups of MANY members, each once: up to eight, each has a part by which it goes round a prime often."""
    if many == 1:
        return [((0,),)]
    found = []
    for prime in PRIMES:
        if many % prime == 0:
            for lines in _groups_of(many // prime):
                for images in maps_on(lines, lines, False):
                    for member in range(len(lines)):
                        made = _extended(lines, images, member, prime)
                        # Whether these are lines of a group is looked at, instead of whether they must be.
                        if is_group(made) and not _is_alike_some(made, found):
                            found.append(made)
    return found


def _extended(lines, images, member, prime):
    """Lines of pairs (A, K), where K, one on, leads by IMAGES, and, PRIME times, is MEMBER."""
    pairs = [(one, ahead) for ahead in range(prime) for one in range(len(lines))]
    return tuple([_line(lines, images, member, prime, one, ahead) for one, ahead in pairs])


def _line(lines, images, member, prime, one, ahead):
    """What (ONE, AHEAD) makes with each pair."""
    led = list(range(len(lines)))
    for _ in range(ahead):
        led = [images[each] for each in led]
    line = []
    for behind in range(prime):
        over = ahead + behind >= prime
        times = ahead + behind - prime if over else ahead + behind
        for other in led:
            made = lines[one][other]
            line.append(times * len(lines) + (lines[made][member] if over else made))
    return tuple(line)
