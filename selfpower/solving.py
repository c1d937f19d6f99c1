"""Solving: how sought elements can be computed from given ones, so that facts hold."""

from selfpower.errors import InvalidElement, InvalidNumber, UnknownName
from selfpower.grids import Grid, agreements, check_names, check_variables, columns_of, names_in
from selfpower.points import check_count, rows_behind
from selfpower.tables import Table


def check_question(theory, facts, given, sought):
    """Raises the error of a question for solutions, if it has one."""
    names = list(given) + list(sought)
    check_names(names)
    if not sought:
        raise InvalidNumber(0)
    check_variables(names)
    for name in names_in(facts):
        if name not in names:
            raise UnknownName(name)
    check_count(theory.sizes, len(names))


def solve(theory, facts, given, sought):
    """A Solved or an Unsolved: tables over the given names that compute the sought elements."""
    check_question(theory, facts, given, sought)
    grid = Grid(theory, list(given) + list(sought))
    shown = Grid(theory, given)
    points = shown.points()
    flags = grid.holding(facts)
    found = found_rows(grid, shown, flags)
    nothing = (0,) * len(sought)
    answer = {name: Table(theory, shown, [found.get(point, nothing)[place] for point in points])
              for place, name in enumerate(sought)}
    missing = [0 if point in found else 1 for point in points]
    if 1 in missing:
        return Unsolved(answer, Table(theory, shown, missing))
    return Solved(answer, general_tables(grid, flags, answer))


def found_rows(grid, shown, flags):
    """A dict from points of given elements to the least row of sought elements with which the facts hold.

    The sought elements are in the field of the point's size. So a row of a point with sought elements behind it is
    the row of a point of all names; and such a row of another one begins with a row that makes a smaller size.
    """
    many = len(shown.names())
    found = {}
    for point, flag in zip(grid.points(), flags):
        size, row = point
        if flag and shown.has((size, row[:many])):
            found.setdefault((size, row[:many]), row[many:])
    return found


def general_tables(grid, flags, answer):
    """The dict from each sought name to its table of the general solution."""
    many = len(grid.names()) - len(answer)
    computed = {}
    found = []
    for point, flag in zip(grid.points(), flags):
        size, row = point
        shown = row[:many]
        if not flag and (size, shown) not in computed:
            computed[(size, shown)] = tuple([answer[name].lookup(size, shown) for name in answer])
        found.append(row[many:] if flag else computed[(size, shown)])
    return {name: Table(grid.theory, grid, [items[place] for items in found]) for place, name in enumerate(answer)}


def solutions(theory, facts, given, sought, size, row):
    """The ascending list of the tuples of sought elements with which the facts hold, for a row of given elements."""
    check_question(theory, facts, given, sought)
    field = theory.field(size)
    for item in row:
        if not field.is_member(item):
            raise InvalidElement(item)
    if len(row) != len(given):
        raise InvalidNumber(len(row))
    rows = rows_behind(tuple(row), field, len(sought))
    names = list(given) + list(sought)
    columns = columns_of(rows, len(names))
    flags = agreements(facts, field, {name: columns[place] for place, name in enumerate(names)}, len(rows))
    return [found[len(given):] for found, flag in zip(rows, flags) if flag]


class Solution:
    """What is found of the sought elements: Solved or Unsolved."""

    KIND = ""

    def __init__(self, answer):
        self._answer = answer

    def __bool__(self):
        return bool(self.KIND == "solved")

    def __repr__(self):
        return f"Solution({self.KIND})"

    def answer(self):
        """A dict from each sought name to a table over the given names."""
        return {name: table.copied() for name, table in self._answer.items()}


class Solved(Solution):
    """The sought elements can always be found."""

    KIND = "solved"

    def __init__(self, answer, general):
        Solution.__init__(self, answer)
        self._general = general

    def general(self):
        """A dict from each sought name to a table over the given and the sought names: all solutions are its values."""
        return {name: table.copied() for name, table in self._general.items()}


class Unsolved(Solution):
    """The sought elements can be found where the condition is 0."""

    KIND = "unsolved"

    def __init__(self, answer, condition):
        Solution.__init__(self, answer)
        self._condition = condition

    @property
    def condition(self):
        """A table over the given names, 0 where the sought elements can be found and 1 elsewhere."""
        return self._condition.copied()

    @property
    def point(self):
        """The least point at which the condition is 1."""
        return (~self._condition).zeros()[0]
