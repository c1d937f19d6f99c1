"""Grids: all points of a theory for some names, and the values of terms at them."""

from selfpower.errors import DuplicateName, InvalidName, TooMany, UnknownPoint
from selfpower.terms import is_name
from selfpower.values import is_whole

MOST_VARIABLES = 4


def check_names(values):
    """Raises the error of a list of any values that have to be different names, if it has one."""
    for value in values:
        if not is_name(value):
            raise InvalidName(value)
    for place, value in enumerate(values):
        if value in values[:place]:
            raise DuplicateName(value)


def check_variables(values):
    """Raises the error of a list of any values that have to be the names of a table, if it has one."""
    check_names(values)
    if len(values) > MOST_VARIABLES:
        raise TooMany(MOST_VARIABLES)


def names_in(equations):
    """The ascending list of the names in equations, each once."""
    return sorted(set([name for equation in equations for name in equation.names()]))


def columns_of(rows, many):
    """The list of the columns, so many, of a list of rows."""
    return [[row[place] for row in rows] for place in range(many)]


def agreements(equations, field, columns, many):
    """The list that tells for each of so many rows of elements of a field whether all equations hold there.

    The columns are a dict from each name to the list of its elements in these rows.
    """
    flags = [True] * many
    for equation in equations:
        one = equation.one.column(field, columns, many)
        other = equation.other.column(field, columns, many)
        flags = [flag and a == b for flag, a, b in zip(flags, one, other)]
    return flags


class Grid:
    """All points of a theory for some names.

    The lanes, one for each size of the theory, are triples (field, many, columns) of the field, how many points have
    this size, and the list of the columns of their rows. The fields are those of the sizes of all points, in order.
    """

    def __init__(self, theory, names):
        check_variables(names)
        points = theory.points(len(names))
        rows = {size: [row for other, row in points if other == size] for size in theory.sizes}
        self._theory = theory
        self._names = tuple(names)
        self._points = points
        self._places = {point: place for place, point in enumerate(points)}
        self.lanes = [(theory.field(size), len(rows[size]), columns_of(rows[size], len(names))) for size in rows]
        self.fields = [lane[0] for lane in self.lanes for _ in range(lane[1])]

    def __eq__(self, other):
        return isinstance(other, Grid) and self._theory == other._theory and self._names == other._names

    @property
    def theory(self):
        """The theory."""
        return self._theory

    def names(self):
        """The tuple of the names."""
        return self._names

    def points(self):
        """The list of the points."""
        return list(self._points)

    def has(self, value):
        """Whether any value is one of the points."""
        if not isinstance(value, tuple) or len(value) != 2 or not is_whole(value[0]) or not isinstance(value[1], tuple):
            return False
        return all([is_whole(item) for item in value[1]]) and value in self._places

    def place(self, point):
        """The index of a point among the points, for any value."""
        if not self.has(point):
            raise UnknownPoint(point)
        return self._places[point]

    def values_of(self, term):
        """The list of the values of a term, with no other names, at all points."""
        found = []
        for field, many, columns in self.lanes:
            found.extend(term.column(field, self._named(columns), many))
        return found

    def differences(self, equation):
        """The list of the differences of both sides of an equation, with no other names, at all points."""
        ones = self.values_of(equation.one)
        others = self.values_of(equation.other)
        return [field.minus(one, other) for field, one, other in zip(self.fields, ones, others)]

    def holding(self, equations):
        """The list that tells for each point whether all equations, with no other names, hold there."""
        flags = []
        for field, many, columns in self.lanes:
            flags.extend(agreements(equations, field, self._named(columns), many))
        return flags

    def _named(self, columns):
        """A dict from the names to the columns of a lane."""
        return {name: columns[place] for place, name in enumerate(self._names)}
