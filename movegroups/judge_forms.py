"""What stands in claims and papers, as the judge itself looks at it: numbers, moves, words, lines."""

SMALL = "abcdefghijklmnopqrstuvwxyz"
MOST_POINTS = 60
MOST_MOVES = 100
MOST_LETTERS = 6
MOST_WORD = 400
MOST_RULES = 300
MOST_SUBS = 8
MOST_ORDER = 48


def is_number(thing):
    """Whether THING is a whole number: True and False are none."""
    return isinstance(thing, int) and not isinstance(thing, bool)


def is_one_of(thing, many):
    """Whether THING is one of the MANY numbers from 0 on."""
    return is_number(thing) and 0 <= thing < many


def is_row(thing, many):
    """Whether THING is a tuple of some of the MANY numbers from 0 on."""
    return isinstance(thing, tuple) and all([is_one_of(number, many) for number in thing])


def is_points(thing):
    """Whether THING is how many points a move may have."""
    return is_number(thing) and 1 <= thing <= MOST_POINTS


def is_move(thing, points):
    """Whether THING is a move of POINTS."""
    return is_points(points) and is_row(thing, points) and sorted(list(thing)) == list(range(points))


def are_moves(thing, points):
    """Whether THING is a tuple of at most a hundred moves of POINTS."""
    return isinstance(thing, tuple) and len(thing) <= MOST_MOVES and all([is_move(move, points) for move in thing])


def are_letters(thing):
    """Whether THING is a tuple of one to six unlike small letters."""
    if not isinstance(thing, tuple) or not 1 <= len(thing) <= MOST_LETTERS:
        return False
    if not all([isinstance(letter, str) and len(letter) == 1 and letter in SMALL for letter in thing]):
        return False
    return len(set(thing)) == len(thing)


def is_word(thing, letters):
    """Whether THING is a word by as many LETTERS."""
    if not isinstance(thing, tuple) or len(thing) > MOST_WORD:
        return False
    return all([is_letter(letter, letters) for letter in thing])


def is_letter(thing, letters):
    """Whether THING is one of as many LETTERS, or its back."""
    return is_number(thing) and thing != 0 and -letters <= thing <= letters


def are_rules(thing, letters):
    """Whether THING is a tuple of at most three hundred words by as many LETTERS."""
    return _are_words(thing, letters, MOST_RULES)


def are_subs(thing, letters):
    """Whether THING is a tuple of at most eight words by as many LETTERS."""
    return _are_words(thing, letters, MOST_SUBS)


def is_group(thing):
    """Whether THING are lines of a group, with 0 the neutral member."""
    if not isinstance(thing, tuple) or not 1 <= len(thing) <= MOST_ORDER:
        return False
    if not all([is_row(line, len(thing)) and len(line) == len(thing) for line in thing]):
        return False
    for member, line in enumerate(thing):
        if line[0] != member or thing[0][member] != member or 0 not in line:
            return False
    return all([_goes_together(thing, line) for line in thing])


def _goes_together(lines, line):
    """Whether LINE's member, one and another make the same, by twos from the front or from the end."""
    for other, made in zip(lines, line):
        if lines[made] != tuple([line[member] for member in other]):
            return False
    return True


def _are_words(thing, letters, most):
    return isinstance(thing, tuple) and len(thing) <= most and all([is_word(word, letters) for word in thing])
