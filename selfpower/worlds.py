"""Worlds: arithmetics of some fields, whose elements are computed field by field."""

from selfpower.errors import InvalidElement, InvalidNumber, InvalidSize, TooMany, UnknownName
from selfpower.fields import Field, is_size
from selfpower.runs import started
from selfpower.values import listed

MOST_SIZES = 16


class World:
    """A world: its elements are tuples with an element of the field of each of its sizes."""

    def __init__(self, *sizes):
        for size in sizes:
            if not is_size(size):
                raise InvalidSize(size)
        if not sizes:
            raise InvalidNumber(0)
        if len(sizes) > MOST_SIZES:
            raise TooMany(MOST_SIZES)
        fields = {size: Field(size) for size in sorted(set(sizes))}
        self._sizes = sizes
        self._fields = [fields[size] for size in sizes]

    @property
    def sizes(self):
        """The tuple of the sizes."""
        return self._sizes

    def __eq__(self, other):
        return isinstance(other, World) and self._sizes == other._sizes

    def __len__(self):
        return len(self._sizes)

    def __repr__(self):
        return f"World({listed(self._sizes)})"

    def __mul__(self, other):
        if not isinstance(other, World):
            return NotImplemented
        return World(*self._sizes, *other._sizes)

    def is_member(self, value):
        """Whether any value is an element."""
        if not isinstance(value, tuple) or len(value) != len(self._fields):
            return False
        return all([field.is_member(item) for field, item in zip(self._fields, value)])

    def number(self, value):
        """The element of a whole number."""
        return tuple([field.number(value) for field in self._fields])

    def evaluate(self, term, given):
        """The value of a term, for a dict from names to elements."""
        names = term.names()
        self._check(names, given)
        rows = [{name: given[name][place] for name in names} for place in range(len(self._fields))]
        return tuple([term.evaluate(field, row) for field, row in zip(self._fields, rows)])

    def holds(self, equation, given):
        """Whether both sides of an equation are equal, for a dict from names to elements."""
        self._check(equation.names(), given)
        return self.evaluate(equation.one, given) == self.evaluate(equation.other, given)

    def _check(self, names, given):
        """Raises the error of a dict from names to elements, if it has not an element for each of these names."""
        for name in names:
            if name not in given:
                raise UnknownName(name)
        for name in names:
            if not self.is_member(given[name]):
                raise InvalidElement(given[name])

    def run(self, program, *row):
        """The tuple of the outputs of a program for elements as inputs."""
        _, outputs = self.trace(program, *row)
        return outputs

    def trace(self, program, *row):
        """The pair of the tuple of the answers of the tests, in the order in which they are asked, and the outputs."""
        if len(row) != len(program.inputs()):
            raise InvalidNumber(len(row))
        for value in row:
            if not self.is_member(value):
                raise InvalidElement(value)
        lanes = [(field, 1, [[element[place]] for element in row]) for place, field in enumerate(self._fields)]
        run = started(program, lanes)
        answers = []
        while run.advance():
            held = all(run.flags())
            run.take(held)
            answers.append(held)
        rows = run.outputs()
        return tuple(answers), tuple([tuple(column) for column in zip(*rows)])

    def obeys(self, theory):
        """Whether it is a world of a theory."""
        return all([size in theory.sizes for size in self._sizes])
