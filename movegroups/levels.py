"""The levels of a group of moves: for each point the members that leave all points below it."""

from movegroups.moves import linked_moves, undone_move
from movegroups.recipes import slimmed_to


class Lead:
    """A member that leads a level's point to an image, its undoing, and the steps that make both."""

    def __init__(self, move, step, undone, undone_step):
        self.move = move
        self.step = step
        self.undone = undone
        self.undone_step = undone_step


class Level:
    """The members that leave all points below POINT: makers, by which all are made, and a lead to each image."""

    def __init__(self, point, stay):
        self.point = point
        # Moves, each with the step that makes it.
        self.makers = []
        self.leads = {point: stay}


class Levels:
    """All levels of the group that MOVES make, and the steps of a recipe of MOVES by which their leads are made."""

    def __init__(self, points, moves):
        self.rest = tuple(range(points))
        # The first step makes rest, of which no other one is made.
        self.steps = [("rest",)]
        stay = Lead(self.rest, 0, self.rest, 0)
        self.levels = [Level(point, stay) for point in range(points)]
        self._many = 0
        for move in moves:
            self.make_by(move)

    def make_by(self, move):
        """Let the group be made by MOVE, too, the next one of MOVES; tell whether it was no member before."""
        self.steps.append(("move", self._many))
        self._many += 1
        return self._take_in(0, move, [len(self.steps) - 1])

    def has(self, move):
        """Whether MOVE is a member."""
        left, _ = self.sifted(move)
        return left == self.rest

    def makers_behind(self, first):
        """Moves by which all members are made that leave all points below FIRST."""
        # No point is left to be moved where all are left.
        return [move for move, _ in self.levels[first].makers] if first < len(self.levels) else []

    def order(self, first=0):
        """How many members leave all points below FIRST."""
        many = 1
        for level in self.levels[first:]:
            many *= len(level.leads)
        return many

    def sifted(self, move, first=0):
        """What is left of MOVE, which leaves all points below FIRST, and the leads that were undone behind it.

        Each level that MOVE comes to undoes its own lead; where it has none, that's the end.
        """
        leads = []
        for level in self.levels[first:]:
            image = move[level.point]
            if image != level.point:
                if image not in level.leads:
                    break
                lead = level.leads[image]
                leads.append(lead)
                # All points below the level's are left: so these needn't be gone through.
                move = self.rest[:level.point] + tuple([lead.undone[each] for each in move[level.point:]])
        return move, leads

    def least_behind(self, made, first):
        """The least move that a member which leaves all points below FIRST, and then MADE, make."""
        for level in self.levels[first:]:
            # The member's images of the level's point, then led on: the least of them settles its lead.
            ahead = made.index(min([made[image] for image in level.leads]))
            made = linked_moves(level.leads[ahead].move, made)
        return made

    def strong(self):
        """For each point, and each other image of it with all below left, the least member that leads there; rising."""
        found = []
        for level in self.levels:
            for image in level.leads:
                if image != level.point:
                    found.append(self.least_behind(level.leads[image].move, level.point + 1))
        return tuple(sorted(found))

    def recipe(self, leads):
        """A recipe of what LEADS make, the last one first."""
        steps = list(self.steps)
        last = _linked_steps(steps, [lead.step for lead in leads[::-1]])
        return tuple(steps[:last + 1])

    def shown(self):
        """A recipe of all leads, and for each level each image, rising, with the step that makes its lead."""
        places = [level.leads[image].step for level in self.levels for image in level.leads]
        recipe, put = slimmed_to(self.steps, places)
        rows = []
        for level in self.levels:
            rows.append(tuple([(image, put[level.leads[image].step]) for image in sorted(list(level.leads))]))
        return recipe, tuple(rows)

    def _take_in(self, first, move, steps):
        """Let the level FIRST be made by MOVE, too, which STEPS make, and let the levels behind it go along.

        Told is whether MOVE wasn't made there before.
        """
        move, leads = self.sifted(move, first)
        if move == self.rest:
            return False
        maker = (move, _linked_steps(self.steps, steps + [lead.undone_step for lead in leads]))
        level = self.levels[first]
        level.makers.append(maker)
        # Each lead is tried with each maker, once: so all that leaves the level's point goes on to the next level.
        tries = [(image, maker) for image in level.leads]
        place = 0
        while place < len(tries):
            image, maker = tries[place]
            met = self._try(level, level.leads[image], maker)
            if met is not None:
                tries.extend([(met, each) for each in level.makers])
            place += 1
        return True

    def _try(self, level, lead, maker):
        """The image that is met by LEAD and MAKER, if it is new; else what both leave goes on to the next level."""
        move, step = maker
        made = linked_moves(lead.move, move)
        image = made[level.point]
        if image not in level.leads:
            step = _linked_steps(self.steps, [lead.step, step])
            self.steps.append(("undo", step))
            level.leads[image] = Lead(made, step, undone_move(made), len(self.steps) - 1)
            return image
        met = level.leads[image]
        if made != met.move:
            self._take_in(level.point + 1, linked_moves(made, met.undone), [lead.step, step, met.undone_step])
        return None


def _linked_steps(notes, numbers):
    """The number of the step that makes what the steps of NUMBERS make in their turn, noted where it isn't there."""
    linked = 0
    for number in numbers:
        if linked == 0 or number == 0:
            linked += number
        else:
            notes.append(("then", linked, number))
            linked = len(notes) - 1
    return linked
