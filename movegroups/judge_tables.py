"""The judge of groups told by tables: parts, maps, likeness, lists."""

from movegroups.judge_counts import WORDS, count
from movegroups.judge_forms import is_group, is_number, is_row
from movegroups.judge_search import MOST_LISTED, has_subs, is_list, maps_on


def holds_of_table(claim, paper):
    """Whether the claim of one table is so: a group, a part, how many parts; the paper is None."""
    word, lines = claim[0], claim[1]
    if paper is not None or not is_group(lines):
        return False
    if word == "group":
        return True
    if word == "subs":
        return is_number(claim[2]) and has_subs(lines, claim[2])
    return _is_sub(lines, claim[2]) and (word == "sub" or _is_normal(lines, claim[2]))


def holds_of_list(claim, paper):
    """Whether the claim is so, that these are all groups of an order; the paper is None."""
    _, many, tables = claim
    if paper is not None or not is_number(many) or not 1 <= many <= MOST_LISTED or not isinstance(tables, tuple):
        return False
    return all([is_group(lines) and len(lines) == many for lines in tables]) and is_list(many, tables)


def holds_of_two(claim, paper):
    """Whether the claim of two tables is so by its paper: a map, alike, unlike."""
    word, one, other = claim[0], claim[1], claim[2]
    if not is_group(one) or not is_group(other):
        return False
    if word == "hom":
        return paper is None and _is_map(one, other, claim[3])
    if word == "alike":
        return _is_map(one, other, paper) and len(one) == len(other) == len(set(paper))
    if not isinstance(paper, str):
        return False
    if paper in WORDS:
        return count(paper, one) != count(paper, other)
    if paper != "search" or not all([count(each, one) == count(each, other) for each in WORDS]):
        return False
    return len(maps_on(one, other, True)) == 0


def _is_map(one, other, images):
    """Whether IMAGES leads the members of ONE to those of OTHER and keeps what two make."""
    if not is_row(images, len(other)) or len(images) != len(one):
        return False
    for member, line in enumerate(one):
        led = other[images[member]]
        if [images[made] for made in line] != [led[image] for image in images]:
            return False
    return True


def _is_sub(lines, sub):
    if not is_row(sub, len(lines)) or 0 not in sub:
        return False
    if not all([ahead < member for ahead, member in zip(sub, sub[1:])]):
        return False
    return all([lines[member][by] in sub for member in sub for by in sub])


def _is_normal(lines, sub):
    """Whether each member ahead of SUB's makes the same ones as behind them."""
    for by in range(len(lines)):
        if sorted([lines[by][member] for member in sub]) != sorted([lines[member][by] for member in sub]):
            return False
    return True
