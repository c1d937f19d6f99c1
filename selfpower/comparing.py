"""Comparisons: whether two programs return the same in all worlds of a theory."""

from selfpower.branches import are_possible, branches, least_place, mask_of, witnesses, world_and_row
from selfpower.errors import Unlike
from selfpower.grids import Grid


def compare(theory, one, other):
    """A Same if two programs return the same for a theory, otherwise a Parted."""
    if len(one.inputs()) != len(other.inputs()) or len(one.outputs()) != len(other.outputs()):
        raise Unlike()
    grid = Grid(theory, one.inputs())
    seconds = branches(grid, other)
    pairs = 0
    for first in branches(grid, one):
        for second in seconds:
            alive = first[1] & second[1]
            fails = first[2] + second[2]
            if are_possible(alive, fails):
                parting = alive & mask_of([a != b for a, b in zip(first[3], second[3])])
                if parting != 0:
                    return parted_at(grid, least_place(parting), alive, fails)
                pairs = pairs + 1
    return Same(pairs)


def parted_at(grid, place, alive, fails):
    """The Parted for a place of a point at which two branches have different outputs.

    The other points of its world, at most one for each failed test, lead the programs into these branches.
    """
    places = [place]
    if fails:
        places = sorted(set([place] + witnesses(alive, fails)))
    points = grid.points()
    world, row = world_and_row([points[at] for at in places], len(grid.names()))
    return Parted(world, row)


class Comparison:
    """What two programs are to each other: Same or Parted."""

    KIND = ""

    def __bool__(self):
        return bool(self.KIND == "same")

    def __repr__(self):
        return f"Comparison({self.KIND})"


class Same(Comparison):
    """Two programs return the same, for so many possible pairs of a way of each."""

    KIND = "same"

    def __init__(self, pairs):
        self._pairs = pairs

    @property
    def pairs(self):
        """How many pairs of a way of each program are possible for the same world and inputs."""
        return self._pairs

    def holds(self, theory, one, other):
        """Whether compare returns a Same with as many pairs for two programs."""
        try:
            found = compare(theory, one, other)
        except Unlike:
            return False
        return bool(found) and found.pairs == self._pairs


class Parted(Comparison):
    """Two programs do not return the same in a world with a row of inputs."""

    KIND = "parted"

    def __init__(self, world, row):
        self._world = world
        self._row = tuple(row)

    @property
    def world(self):
        """The world."""
        return self._world

    @property
    def row(self):
        """The tuple of the inputs."""
        return self._row

    def holds(self, theory, one, other):
        """Whether the world and the row show that two programs do not return the same for a theory."""
        if not self._world.obeys(theory) or not all([self._world.is_member(value) for value in self._row]):
            return False
        if len(one.inputs()) != len(self._row) or len(other.inputs()) != len(self._row):
            return False
        return self._world.run(one, *self._row) != self._world.run(other, *self._row)
