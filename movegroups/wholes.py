"""What is a whole number."""


def is_whole(thing):
    """Whether THING, of any kind, is a whole number."""
    return isinstance(thing, int) and not isinstance(thing, bool)


def is_between(thing, low, high):
    """Whether THING, of any kind, is a whole number from LOW to HIGH."""
    return is_whole(thing) and low <= thing <= high
