"""A small judge: it takes a claim by its paper, or doesn't, and trusts nothing of the house."""

from movegroups.judge_moves import holds_of_moves
from movegroups.judge_tables import holds_of_list, holds_of_table, holds_of_two
from movegroups.judge_words import holds_of_words

# How many things stand in a claim, its word too.
LENGTHS = {
    "member": 4, "order": 4, "no member": 4, "index": 5, "equal": 5, "apart": 5, "group": 2, "hom": 4, "sub": 3,
    "normal": 3, "alike": 3, "unlike": 3, "subs": 3, "list": 3,
}


def holds(claim, paper):
    """Whether CLAIM is taken with PAPER, both of any kind."""
    if not isinstance(claim, tuple) or len(claim) == 0 or not isinstance(claim[0], str):
        return False
    word = claim[0]
    if word not in LENGTHS or len(claim) != LENGTHS[word]:
        return False
    if word in ("member", "order", "no member"):
        return holds_of_moves(claim, paper)
    if word in ("index", "equal", "apart"):
        return holds_of_words(claim, paper)
    if word in ("hom", "alike", "unlike"):
        return holds_of_two(claim, paper)
    if word == "list":
        return holds_of_list(claim, paper)
    return holds_of_table(claim, paper)
