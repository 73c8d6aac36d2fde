"""Groups of moves, told by moves that make them."""

from movegroups.bounds import MOST_MOVES
from movegroups.errors import NoImages, NoMember, NoMoves, NoNumber, NoPoint, NoPoints
from movegroups.levels import Levels
from movegroups.moves import check_move, check_moves, check_points, linked_moves
from movegroups.reach import reach
from movegroups.recipes import slimmed
from movegroups.wholes import is_between


class Moves:
    """The group of all moves of POINTS that rows of MOVES make."""

    def __init__(self, points, moves):
        check_points(points)
        if isinstance(moves, tuple) and len(moves) > MOST_MOVES:
            raise NoMoves(None)
        check_moves(moves, points)
        self.points = points
        self.moves = moves
        self._all = Levels(points, moves)

    def order(self):
        """How many members there are."""
        return self._all.order()

    def has(self, move):
        """Whether MOVE is a member."""
        return self.stops(move) is None

    def orbit(self, point, fixed=0):
        """All images of POINT by the members that leave the points below FIXED, rising."""
        if not is_between(point, 0, self.points - 1):
            raise NoPoint("none of the points")
        if not is_between(fixed, 0, self.points):
            raise NoNumber("no number of points")
        return reach(point, self._all.makers_behind(fixed))

    def least(self, images):
        """The least member that begins with IMAGES; None where none does."""
        if not self._are_images(images):
            raise NoImages("no tuple of unlike points")
        made = self._all.rest
        for level, image in zip(self._all.levels, images):
            ahead = made.index(image)
            if ahead not in level.leads:
                return None
            made = linked_moves(level.leads[ahead].move, made)
        return self._all.least_behind(made, len(images))

    def strong(self):
        """For each point, and each other image of it with all below left, the least member that leads there."""
        return self._all.strong()

    def stops(self, move):
        """The least point up to which no member is as MOVE; None of a member."""
        self._check_move(move)
        left, _ = self._all.sifted(move)
        if left == self._all.rest:
            return None
        return [image == point for point, image in enumerate(left)].index(False)

    def rank(self, move):
        """How many members are less than MOVE."""
        self._check_member(move)
        many = 0
        made = self._all.rest
        for level in self._all.levels:
            image = move[level.point]
            less = [ahead for ahead in level.leads if made[ahead] < image]
            many += len(less) * self._all.order(level.point + 1)
            made = linked_moves(level.leads[made.index(image)].move, made)
        return many

    def member(self, rank):
        """The member than which RANK others are less."""
        if not is_between(rank, 0, self.order() - 1):
            raise NoNumber("no rank of a member")
        made = self._all.rest
        for level in self._all.levels:
            less, rank = divmod(rank, self._all.order(level.point + 1))
            image = sorted([made[ahead] for ahead in level.leads])[less]
            made = linked_moves(level.leads[made.index(image)].move, made)
        return made

    def recipe(self, move):
        """A recipe of MOVES whose last step is MOVE."""
        self._check_member(move)
        _, leads = self._all.sifted(move)
        return slimmed(self._all.recipe(leads))

    def __eq__(self, other):
        if not isinstance(other, Moves) or self.points != other.points or self.order() != other.order():
            return False
        return all([other.has(move) for move in self.moves])

    def __repr__(self):
        return f"Moves({self.points} points, {self.order()} members)"

    def _are_images(self, thing):
        if not isinstance(thing, tuple) or not all([is_between(image, 0, self.points - 1) for image in thing]):
            return False
        return len(set(thing)) == len(thing)

    def _check_move(self, thing):
        check_move(thing)
        if len(thing) != self.points:
            raise NoPoints("a move of other many points")

    def _check_member(self, thing):
        if self.stops(thing) is not None:
            raise NoMember("no member of the group")
