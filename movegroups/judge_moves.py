"""The judge of groups of moves: by recipes, and by levels that are multiplied out."""

from movegroups.judge_forms import are_moves, is_move, is_number, is_one_of, is_points


def holds_of_moves(claim, paper):
    """Whether the claim is so by its paper: a member, the order, no member."""
    word, points, moves, told = claim
    if not is_points(points) or not are_moves(moves, points):
        return False
    if word != "order" and not is_move(told, points):
        return False
    if word == "member":
        made = _made_by(paper, moves, points)
        return made is not None and len(made) > 0 and made[-1] == told
    levels = _levels(paper, moves, points)
    if levels is None or not all([_comes_through(move, levels, 0) for move in moves]) or not _are_closed(levels):
        return False
    if word == "no member":
        return not _comes_through(told, levels, 0)
    return is_number(told) and told == _order(levels)


def _then(one, other):
    return tuple([other[image] for image in one])


def _undo(one):
    points = [0] * len(one)
    for point, image in enumerate(one):
        points[image] = point
    return tuple(points)


def _made_by(recipe, moves, points):
    """The moves of all steps; None where RECIPE is none."""
    if not isinstance(recipe, tuple):
        return None
    made = []
    for step in recipe:
        move = _made_step(step, made, moves, points)
        if move is None:
            return None
        made.append(move)
    return made


def _made_step(step, made, moves, points):
    """The move of STEP, where those ahead of it are MADE; None where it is no step."""
    if not isinstance(step, tuple) or len(step) == 0 or not isinstance(step[0], str):
        return None
    word, numbers = step[0], step[1:]
    if word == "rest" and numbers == ():
        return tuple(range(points))
    if word == "move" and len(numbers) == 1 and is_one_of(numbers[0], len(moves)):
        return moves[numbers[0]]
    if not all([is_one_of(number, len(made)) for number in numbers]):
        return None
    if word == "then" and len(numbers) == 2:
        return _then(made[numbers[0]], made[numbers[1]])
    if word == "undo" and len(numbers) == 1:
        return _undo(made[numbers[0]])
    return None


def _levels(paper, moves, points):
    """For each point the move, and its undoing, by each image; None where PAPER isn't as told."""
    if not isinstance(paper, tuple) or len(paper) != 2:
        return None
    recipe, levels = paper
    made = _made_by(recipe, moves, points)
    if made is None or not isinstance(levels, tuple) or len(levels) != points:
        return None
    found = []
    for point, level in enumerate(levels):
        leads = _leads(point, level, made)
        if leads is None:
            return None
        found.append(leads)
    return found


def _leads(point, level, made):
    """By each image, rising, the move that leads POINT there, and its undoing; None where LEVEL isn't as told."""
    if not isinstance(level, tuple):
        return None
    leads = {}
    last = -1
    for pair in level:
        if not isinstance(pair, tuple) or len(pair) != 2 or not is_one_of(pair[1], len(made)):
            return None
        image, move = pair[0], made[pair[1]]
        if not is_number(image) or image <= last or move[:point + 1] != tuple(range(point)) + (image,):
            return None
        leads[image] = (move, _undo(move))
        last = image
    return leads if point in leads else None


def _comes_through(move, levels, first):
    """Whether MOVE, which leaves all points below FIRST, is sifted to rest."""
    for point in range(first, len(levels)):
        if move[point] not in levels[point]:
            return False
        _, undone = levels[point][move[point]]
        # By now each point is led to itself and stays so: what is left at last is rest.
        move = _then(move, undone)
    return True


def _are_closed(levels):
    """Whether from each point on, of each move of its level and each of a level from there on, both come through.

    It isn't asked of each: only of the MAKERS, of which those of a level from there on are made, if all comes through.
    For what comes through from the next point on is a group by then, made by the MAKERS so far. Let it have this
    point's own move, and let the MAKERS lead this point to each image of its level. Then a move of the level and a
    maker, which come through, are a member of that group and a move of the level: so the MAKERS make all of these,
    and what comes through from here on is a group again. Where one of these fails, one that was to be asked fails.
    """
    makers = []
    for point in reversed(range(len(levels))):
        leads = levels[point]
        own, _ = leads[point]
        if not _comes_through(own, levels, point + 1):
            return False
        met = _reach(point, makers)
        for image, (move, _) in leads.items():
            if image not in met:
                makers.append(move)
                met = _reach(point, makers)
        for move, _ in leads.values():
            if not all([_comes_through(_then(move, maker), levels, point) for maker in makers]):
                return False
    return True


def _reach(point, moves):
    """All images of POINT by rows of MOVES."""
    met = {point: True}
    further = [point]
    while further:
        image = further.pop()
        for move in moves:
            if move[image] not in met:
                met[move[image]] = True
                further.append(move[image])
    return met


def _order(levels):
    many = 1
    for leads in levels:
        many *= len(leads)
    return many
