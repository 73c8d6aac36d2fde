"""Recipes: rows of steps that make moves of moves."""

from movegroups.errors import NoRecipe
from movegroups.moves import check_moves, check_points, linked_moves, undone_move
from movegroups.wholes import is_between, is_whole

# How many numbers stand behind a step's word.
NUMBERS = {"rest": 0, "move": 1, "then": 2, "undo": 1}


def made_by(recipe, moves, points):
    """The moves of all steps of RECIPE, by MOVES of POINTS."""
    check_points(points)
    check_moves(moves, points)
    _check_recipe(recipe, len(moves))
    made = []
    for word, *numbers in recipe:
        if word == "rest":
            made.append(tuple(range(points)))
        elif word == "move":
            made.append(moves[numbers[0]])
        elif word == "then":
            made.append(linked_moves(made[numbers[0]], made[numbers[1]]))
        else:
            made.append(undone_move(made[numbers[0]]))
    return tuple(made)


def slimmed(recipe):
    """RECIPE without all steps that its last one doesn't come to."""
    _check_recipe(recipe, None)
    if not recipe:
        raise NoRecipe(None)
    kept, _ = slimmed_to(recipe, [len(recipe) - 1])
    return kept


def slimmed_to(recipe, places):
    """RECIPE without all steps that those at PLACES don't come to, and the new place of each that is kept."""
    wanted = [False] * len(recipe)
    for place in places:
        wanted[place] = True
    for place in reversed(range(len(recipe))):
        if wanted[place]:
            for ahead in _steps_ahead(recipe[place]):
                wanted[ahead] = True
    kept = []
    put = {}
    for place, step in enumerate(recipe):
        if wanted[place]:
            put[place] = len(kept)
            ahead = [put[number] for number in _steps_ahead(step)]
            kept.append((step[0], *ahead) if ahead else step)
    return tuple(kept), put


def _steps_ahead(step):
    """The numbers of the steps of which STEP is made."""
    return step[1:] if step[0] in ("then", "undo") else ()


def _check_recipe(thing, many):
    if not isinstance(thing, tuple):
        raise NoRecipe(None)
    for place, step in enumerate(thing):
        if not _is_step(step, place, many):
            raise NoRecipe(place)


def _is_step(thing, place, many):
    """Whether THING is a step at PLACE by MANY moves; by any number of them where MANY is None."""
    if not isinstance(thing, tuple) or not thing or not isinstance(thing[0], str):
        return False
    word, numbers = thing[0], thing[1:]
    if word not in NUMBERS or len(numbers) != NUMBERS[word]:
        return False
    if word == "move":
        return is_whole(numbers[0]) and numbers[0] >= 0 and (many is None or numbers[0] < many)
    return all([is_between(number, 0, place - 1) for number in numbers])
