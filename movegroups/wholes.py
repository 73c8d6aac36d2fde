"""What is a whole number, and how one is read."""

FIGURES = "0123456789"


def is_whole(thing):
    """Whether THING, of any kind, is a whole number."""
    return isinstance(thing, int) and not isinstance(thing, bool)


def is_between(thing, low, high):
    """Whether THING, of any kind, is a whole number from LOW to HIGH."""
    return is_whole(thing) and low <= thing <= high


def is_rising(thing, many):
    """Whether THING, of any kind, is a rising tuple of unlike numbers from 0 to below MANY."""
    if not isinstance(thing, tuple) or not all([is_between(number, 0, many - 1) for number in thing]):
        return False
    return all([one < other for one, other in zip(thing, thing[1:])])


def read_whole(text):
    """The number that stands in TEXT in figures, without noughts ahead; None where none does."""
    if text == "" or (text[0] == "0" and text != "0"):
        return None
    number = 0
    # Figure by figure, since int(..) takes signs of other scripts, and not as many figures as there may be.
    for figure in text:
        if figure not in FIGURES:
            return None
        number = 10 * number + FIGURES.index(figure)
    return number
