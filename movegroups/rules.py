"""Groups told by letters and rules, and moves that do as they say."""

from movegroups.bounds import MOST_RULES
from movegroups.errors import NoDoing, NoRules
from movegroups.moves import is_move, rest, undo
from movegroups.words import check_letters, check_word, is_word, show_word


class Rules:
    """The group of words by LETTERS in which each of RULES may be put in or taken out."""

    def __init__(self, letters, rules):
        check_letters(letters)
        if not isinstance(rules, tuple) or len(rules) > MOST_RULES:
            raise NoRules(None)
        for place, word in enumerate(rules):
            if not is_word(word, len(letters)):
                raise NoRules(place)
        self.letters = letters
        self.rules = rules

    def __eq__(self, other):
        return isinstance(other, Rules) and self.letters == other.letters and self.rules == other.rules

    def __len__(self):
        return len(self.rules)

    def __str__(self):
        letters = " ".join(self.letters)
        if not self.rules:
            return f"{letters}:"
        words = ", ".join([show_word(word, self.letters) for word in self.rules])
        return f"{letters}: {words}"


def check_rules(thing):
    """Refuse what is no Rules."""
    if not isinstance(thing, Rules):
        raise NoRules(None)


def check_doing(thing, many):
    """Refuse what is no tuple of MANY moves of one many points."""
    if not isinstance(thing, tuple) or len(thing) != many:
        raise NoDoing("no tuple of a move for each letter")
    if not all([is_move(move) for move in thing]):
        raise NoDoing("no moves")
    if not all([len(move) == len(thing[0]) for move in thing]):
        raise NoDoing("moves of unlike many points")


def led(rules, word, doing):
    """The move that WORD makes, letter by letter, where DOING has one for each."""
    check_rules(rules)
    check_word(word, len(rules.letters))
    check_doing(doing, len(rules.letters))
    return _led(word, _both_ways(doing))


def broken(rules, doing):
    """The number of the first rule that DOING doesn't lead to rest; None where none."""
    check_rules(rules)
    check_doing(doing, len(rules.letters))
    moves = _both_ways(doing)
    for place, word in enumerate(rules.rules):
        if _led(word, moves) != moves[0]:
            return place
    return None


def _both_ways(doing):
    """The moves by the letters and their backs; by 0 that of rest."""
    moves = {0: rest(len(doing[0]))}
    for place, move in enumerate(doing):
        moves[place + 1] = move
        moves[-place - 1] = undo(move)
    return moves


def _led(word, moves):
    made = moves[0]
    for letter in word:
        move = moves[letter]
        made = tuple([move[image] for image in made])
    return made
