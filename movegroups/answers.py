"""What is asked of groups, parts and maps, by words of any kind."""

from movegroups.errors import NoWord
from movegroups.likeness import counts
from movegroups.maps import image, kernel
from movegroups.members import centralizer, centre, classes, normalizer, orders
from movegroups.series import derived_series, lower_series
from movegroups.subs import is_normal


def asked_of_group(word, table):
    """What WORD asks of a group of this Table."""
    _check_text(word)
    if word == "order":
        return len(table.lines)
    if word == "orders":
        return orders(table)
    if word == "classes":
        return classes(table)
    if word == "centre":
        return centre(table)
    if word == "derived":
        return derived_series(table)
    if word == "lower":
        return lower_series(table)
    if word == "counts":
        return counts(table)
    raise NoWord("no word for a group")


def asked_of_part(word, table, sub):
    """What WORD asks of a part SUB of a group of this Table."""
    _check_text(word)
    if word == "order":
        return len(sub)
    if word == "normal":
        return is_normal(table, sub)
    if word == "normalizer":
        return normalizer(table, sub)
    if word == "centralizer":
        return centralizer(table, sub)
    raise NoWord("no word for a part")


def asked_of_map(word, one, other, images):
    """What WORD asks of a map from the Table ONE to OTHER."""
    _check_text(word)
    if word == "kernel":
        return kernel(one, other, images)
    if word == "image":
        return image(one, other, images)
    raise NoWord("no word for a map")


def _check_text(word):
    # What is alike everything is no word, either.
    if not isinstance(word, str):
        raise NoWord("no word")
