"""Tables: a value for each point of a theory, for some names."""

from selfpower.errors import InvalidElement, InvalidNumber, InvalidTerm, UnknownName, Unlike
from selfpower.grids import Grid, check_variables
from selfpower.points import placed
from selfpower.runs import started
from selfpower.trees import MOST_EXPONENT
from selfpower.values import is_whole, listed


def sums(fields, ones, others):
    """The list of the sums of elements, each two in a field of their own."""
    return [field.plus(one, other) for field, one, other in zip(fields, ones, others)]


def differences(fields, ones, others):
    """The list of the differences of elements, each two in a field of their own."""
    return [field.minus(one, other) for field, one, other in zip(fields, ones, others)]


def products(fields, ones, others):
    """The list of the products of elements, each two in a field of their own."""
    return [field.times(one, other) for field, one, other in zip(fields, ones, others)]


def variables_text(names):
    """What is shown of the names of a table."""
    if not names:
        return "-"
    return listed(names)


def count_tables(theory, many):
    """How many tables of a theory there are for so many names."""
    found = 1
    for size, _ in theory.points(many):
        found = found * size
    return found


def tables_of(theory, program):
    """The list of the tables of the outputs of a flat program, for its inputs as names."""
    if not program.is_flat():
        raise Unlike()
    grid = Grid(theory, program.inputs())
    run = started(program, grid.lanes)
    # A flat program has no test at which the run could stop.
    run.advance()
    rows = run.outputs()
    return [Table(theory, grid, [row[place] for row in rows]) for place in range(len(program.outputs()))]


class Table:
    """A table. The names may also be the grid of a theory, whose points then need not be found again."""

    def __init__(self, theory, names, values):
        grid = names if isinstance(names, Grid) else Grid(theory, names)
        if len(values) != len(grid.fields):
            raise InvalidNumber(len(values))
        for field, value in zip(grid.fields, values):
            if not field.is_member(value):
                raise InvalidElement(value)
        self._grid = grid
        self._values = list(values)

    @staticmethod
    def of(theory, names, term):
        """The table of a term."""
        check_variables(names)
        for name in term.names():
            if name not in names:
                raise UnknownName(name)
        grid = Grid(theory, names)
        return Table(theory, grid, grid.values_of(term))

    @staticmethod
    def ranked(theory, names, rank):
        """The table with a rank."""
        grid = Grid(theory, names)
        if not is_whole(rank) or not 0 <= rank < count_tables(theory, len(names)):
            raise InvalidNumber(rank)
        values = []
        for field in grid.fields:
            rank, value = divmod(rank, field.size)
            values.append(value)
        return Table(theory, grid, values)

    @property
    def theory(self):
        """The theory."""
        return self._grid.theory

    @property
    def variables(self):
        """The tuple of the names."""
        return self._grid.names()

    @property
    def rank(self):
        """The number of the table: its values are digits, the first one the lowest."""
        rank = 0
        for field, value in list(zip(self._grid.fields, self._values))[::-1]:
            rank = rank * field.size + value
        return rank

    def __eq__(self, other):
        return isinstance(other, Table) and self._grid == other._grid and self._values == other._values

    def __len__(self):
        return len(self._values)

    def __repr__(self):
        return f"Table({variables_text(self._grid.names())}: {len(self._values)} points)"

    def __iter__(self):
        raise TypeError("a table has points and values: it is not walked over")

    def __contains__(self, x):
        return self._grid.has(x)

    def __getitem__(self, at):
        return self._values[self._grid.place(at)]

    def __setitem__(self, at, worth):
        self.put(at, worth)

    def __add__(self, other):
        return self._like(sums(self._grid.fields, self._values, self._beside(other)))

    def __radd__(self, other):
        return self._like(sums(self._grid.fields, self._beside(other), self._values))

    def __iadd__(self, other):
        self._values = sums(self._grid.fields, self._values, self._beside(other))
        return self

    def __sub__(self, other):
        return self._like(differences(self._grid.fields, self._values, self._beside(other)))

    def __rsub__(self, other):
        return self._like(differences(self._grid.fields, self._beside(other), self._values))

    def __isub__(self, other):
        self._values = differences(self._grid.fields, self._values, self._beside(other))
        return self

    def __mul__(self, other):
        return self._like(products(self._grid.fields, self._values, self._beside(other)))

    def __rmul__(self, other):
        return self._like(products(self._grid.fields, self._beside(other), self._values))

    def __imul__(self, other):
        self._values = products(self._grid.fields, self._values, self._beside(other))
        return self

    def __neg__(self):
        return self._like([field.minus(0, value) for field, value in zip(self._grid.fields, self._values)])

    def __invert__(self):
        return self._like([1 if value == 0 else 0 for value in self._values])

    def __pow__(self, other):
        return self.raised(other)

    def _like(self, values):
        """A table for the same theory and names with other values."""
        return Table(self._grid.theory, self._grid, values)

    def _beside(self, other):
        """The list of the values at the points of any value beside a sign: a table or a whole number."""
        if isinstance(other, Table):
            if self._grid != other._grid:
                raise Unlike()
            return other._values
        if not is_whole(other):
            raise InvalidTerm(other)
        return [field.number(other) for field in self._grid.fields]

    def raised(self, exponent):
        """The power of the table by an exponent, point by point."""
        if not is_whole(exponent) or not 0 <= exponent <= MOST_EXPONENT:
            raise InvalidNumber(exponent)
        return self._like([field.raised(value, exponent) for field, value in zip(self._grid.fields, self._values)])

    def put(self, point, value):
        """Changes the value at a point."""
        place = self._grid.place(point)
        if not self._grid.fields[place].is_member(value):
            raise InvalidElement(value)
        self._values[place] = value

    def entries(self):
        """The list of the values."""
        return list(self._values)

    def zeros(self):
        """The list of the points with the value 0."""
        return [point for point, value in zip(self._grid.points(), self._values) if value == 0]

    def lookup(self, size, row):
        """The value of the table at a row of elements of the field of a size."""
        theory = self._grid.theory
        field = theory.field(size)
        for item in row:
            if not field.is_member(item):
                raise InvalidElement(item)
        if len(row) != len(self._grid.names()):
            raise InvalidNumber(len(row))
        # The fields of the theory are made already, and the one that a row makes is among them.
        small = theory.field(field.made(*row))
        point_row, leading = placed(field, small, row)
        return leading[self._values[self._grid.place((small.size, point_row))]]

    def copied(self):
        """An equal table of its own."""
        return self._like(self._values)
