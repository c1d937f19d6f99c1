"""Deriving: whether an equation follows from facts in all worlds of a theory."""

from selfpower.branches import world_and_row
from selfpower.errors import InvalidNumber
from selfpower.grids import MOST_VARIABLES, Grid, names_in
from selfpower.tables import Table

MOST_GOALS = 16


def follows(theory, facts, goal):
    """A Derived if a goal follows from a list of facts, otherwise a Broken with a world of one size."""
    grid = Grid(theory, names_in(list(facts) + [goal]))
    breaking = breaking_place(grid.holding(facts), grid.holding([goal]))
    if breaking is not None:
        return broken_at(grid, [breaking])
    wanted = grid.differences(goal)
    shown = [grid.differences(fact) for fact in facts]
    rows = [factors_at(field, wanted[place], [column[place] for column in shown])
            for place, field in enumerate(grid.fields)]
    return Derived([Table(theory, grid, [row[index] for row in rows]) for index in range(len(facts))])


def any_follows(theory, facts, *goals):
    """The pair of the index of the first goal that follows from a list of facts and its Derived.

    If there is none, the pair of None and a Broken for all goals.
    """
    if not 1 <= len(goals) <= MOST_GOALS:
        raise InvalidNumber(len(goals))
    grid = Grid(theory, names_in(list(facts) + list(goals)))
    known = grid.holding(facts)
    breaking = []
    for index, goal in enumerate(goals):
        place = breaking_place(known, grid.holding([goal]))
        if place is None:
            return index, follows(theory, facts, goal)
        breaking.append(place)
    return None, broken_at(grid, sorted(set(breaking)))


def breaking_place(known, wanted):
    """The first place at which the facts hold and the goal does not; None if there is none."""
    for place, flag in enumerate(known):
        if flag and not wanted[place]:
            return place
    return None


def broken_at(grid, places):
    """The Broken with the points at these places of a grid."""
    points = grid.points()
    world, row = world_and_row([points[place] for place in places], len(grid.names()))
    return Broken(world, {name: row[at] for at, name in enumerate(grid.names())})


def factors_at(field, wanted, shown):
    """The list of the factors in a field with which the differences shown by the facts make the wanted one.

    One factor is enough: if the wanted difference is not 0, the facts have one that is not 0.
    """
    factors = [0] * len(shown)
    if wanted != 0:
        place = 0
        while shown[place] == 0:
            place = place + 1
        # In a field of so many elements, each power by one less is 1 unless it is 0.
        inverse = field.raised(shown[place], field.size - 2)
        factors[place] = field.times(wanted, inverse)
    return factors


class Answer:
    """Whether a goal follows from facts: Derived or Broken."""

    KIND = ""

    def __bool__(self):
        return bool(self.KIND == "derived")

    def __repr__(self):
        return f"Answer({self.KIND})"


class Derived(Answer):
    """A derivation: the goal is the sum of the facts, each multiplied by its factor."""

    KIND = "derived"

    def __init__(self, factors):
        self._factors = [factor.copied() for factor in factors]

    def factors(self):
        """The list of the factors, tables of their own."""
        return [factor.copied() for factor in self._factors]

    def holds(self, theory, facts, goal):
        """Whether it is a derivation of a goal from a list of facts."""
        names = names_in(list(facts) + [goal])
        if len(names) > MOST_VARIABLES or len(self._factors) != len(facts):
            return False
        for factor in self._factors:
            if factor.theory != theory or factor.variables != tuple(names):
                return False
        grid = Grid(theory, names)
        total = Table(theory, grid, [0] * len(grid.fields))
        for factor, fact in zip(self._factors, facts):
            total = total + factor * Table(theory, grid, grid.differences(fact))
        return total.entries() == grid.differences(goal)


class Broken(Answer):
    """A world, and elements for names, for which the facts hold and the goal does not."""

    KIND = "broken"

    def __init__(self, world, given):
        self._world = world
        self._given = dict(given)

    @property
    def world(self):
        """The world."""
        return self._world

    def given(self):
        """The dict from the names to elements of the world."""
        return dict(self._given)

    def holds(self, theory, facts, goal):
        """Whether it shows that a goal does not follow from a list of facts."""
        names = names_in(list(facts) + [goal])
        if not self._world.obeys(theory) or sorted(self._given) != names:
            return False
        if not all([self._world.is_member(self._given[name]) for name in names]):
            return False
        if not all([self._world.holds(fact, self._given) for fact in facts]):
            return False
        return not self._world.holds(goal, self._given)
