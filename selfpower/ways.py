"""Ways: the answers that the tests of a program can have in a run."""

from selfpower.branches import branches, count_of, witnesses, world_and_row
from selfpower.grids import Grid
from selfpower.values import listed


def ways(theory, program):
    """The list of the possible ways of a program, those with True where they first differ ahead of the others."""
    grid = Grid(theory, program.inputs())
    return [way_of(grid, branch) for branch in branches(grid, program)]


def way_of(grid, branch):
    """The way of a branch of a program on the points of a grid."""
    answers, alive, fails, _ = branch
    points = grid.points()
    world, row = world_and_row([points[place] for place in witnesses(alive, fails)], len(grid.names()))
    return Way(answers, world, row, count_of(alive))


class Way:
    """A possible way of a program, and a run that goes it."""

    def __init__(self, answers, world, row, many):
        self._answers = answers
        self._world = world
        self._row = row
        self._many = many

    @property
    def answers(self):
        """The tuple of the answers of the tests, in the order in which they are asked."""
        return self._answers

    @property
    def world(self):
        """A world in which a run of the program goes this way."""
        return self._world

    @property
    def row(self):
        """The tuple of the inputs with which it does so."""
        return self._row

    @property
    def many(self):
        """How many points there are at which all passed tests of the way hold."""
        return self._many

    def __repr__(self):
        return f"Way({listed(self._answers)})"
