"""Middles: what lies between facts and a goal that follows from them."""

from selfpower.deriving import follows
from selfpower.grids import Grid, names_in
from selfpower.places import Places
from selfpower.tables import Table


def middle(theory, facts, goal):
    """A Between with the middles for facts and a goal, a Gap if there is none, a Broken if the goal does not follow."""
    answer = follows(theory, facts, goal)
    if not answer:
        return answer
    known = Grid(theory, names_in(facts))
    wanted = Grid(theory, goal.names())
    names = [name for name in known.names() if name in wanted.names()]
    places = Places(theory)
    holding = shared_points(known, known.holding(facts), names, places)
    failing = shared_points(wanted, [not flag for flag in wanted.holding([goal])], names, places)
    for point in holding:
        # In a common field these two rows would be one row, for which the facts hold and the goal does not.
        if point in failing:
            return Gap(holding[point], failing[point])
    grid = Grid(theory, names)
    strongest = Table(theory, grid, [0 if point in holding else 1 for point in grid.points()])
    return Between(strongest, Table(theory, grid, [1 if point in failing else 0 for point in grid.points()]))


def shared_points(grid, flags, names, places):
    """A dict from the points of some names of a grid to the first point of it that has them and a flag."""
    kept = [grid.names().index(name) for name in names]
    found = {}
    for (size, row), flag in zip(grid.points(), flags):
        if flag:
            point, _ = places.placed(size, tuple([row[place] for place in kept]))
            found.setdefault(point, (size, row))
    return found


class Between:
    """There are middles: tables over the names that occur both in the facts and in the goal."""

    def __init__(self, strongest, weakest):
        self._strongest = strongest.copied()
        self._weakest = weakest.copied()

    @property
    def strongest(self):
        """The middle that is 0 at as few points as possible, and 1 elsewhere."""
        return self._strongest.copied()

    @property
    def weakest(self):
        """The middle that is 0 at as many points as possible, and 1 elsewhere."""
        return self._weakest.copied()

    def __repr__(self):
        return f"Between({len(self._strongest.variables)} names)"


class Gap:
    """There is no middle: rows of fields that lie in no common one have the same point of the shared names."""

    def __init__(self, first, second):
        self._first = first
        self._second = second

    @property
    def first(self):
        """The pair of a size and a row for the names of the facts at which they hold."""
        return self._first

    @property
    def second(self):
        """The pair of a size and a row for the names of the goal at which it does not hold."""
        return self._second

    def __repr__(self):
        return f"Gap({self._first[0]}, {self._second[0]})"
