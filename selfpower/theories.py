"""Theories: what is known of an arithmetic, and the sizes of the fields from which it can be built."""

from selfpower.equations import Equation, equation_at
from selfpower.errors import InvalidEquation, InvalidSize, InvalidText, UnknownIndex
from selfpower.fields import LEAST_POWER, MOST_POWER, Field, field_sizes, lies_in
from selfpower.points import check_count, point_rows, points_of
from selfpower.values import is_whole, number_in


def breaks(axiom, field):
    """Whether an axiom fails for elements that make the size of a field.

    Turnings change nothing of this, so one row for each point tells it.
    """
    names = axiom.names()
    rows = point_rows(field, len(names))
    columns = {name: [row[place] for row in rows] for place, name in enumerate(names)}
    return axiom.one.column(field, columns, len(rows)) != axiom.other.column(field, columns, len(rows))


def broken_sizes(axioms, fields):
    """The list of those sizes of a dict of fields whose fields have elements that make the size and break an axiom."""
    return [size for size in fields if any([breaks(axiom, fields[size]) for axiom in axioms])]


def power_in(line):
    """The power that the first line of the text of a theory tells."""
    word, _, digits = line.partition(" ")
    power = number_in(digits)
    if word != "power" or power is None or not LEAST_POWER <= power <= MOST_POWER:
        raise InvalidText(0)
    return power


def axiom_in(line, at):
    """The axiom that a line of the text of a theory tells, for the index of the line."""
    if not line.startswith("axiom "):
        raise InvalidText(at)
    return equation_at(line.removeprefix("axiom "), at)


def sizes_text(sizes):
    """What is shown of the sizes of a theory."""
    if not sizes:
        return "none"
    return " ".join([str(size) for size in sizes])


class Theory:
    """A theory: each element is its own power, and the axioms hold for all elements."""

    def __init__(self, power, axioms=()):
        fields = {size: Field(size) for size in field_sizes(power)}
        for axiom in axioms:
            if not isinstance(axiom, Equation):
                raise InvalidEquation(axiom)
        for axiom in axioms:
            check_count(list(fields), len(axiom.names()))
        broken = broken_sizes(axioms, fields)
        self._power = power
        self._axioms = list(axioms)
        # The elements of a field are those of the fields that lie in it, as far as they do not make its size.
        self._fields = {size: fields[size] for size in fields if not any([lies_in(small, size) for small in broken])}

    @staticmethod
    def read(text):
        """The theory with a text."""
        if not isinstance(text, str):
            raise InvalidText(0)
        lines = text.split("\n")
        power = power_in(lines[0])
        return Theory(power, [axiom_in(lines[at], at) for at in range(1, len(lines))])

    @property
    def power(self):
        """The power: each element is its own power by this exponent."""
        return self._power

    @property
    def sizes(self):
        """The ascending tuple of the sizes of the theory."""
        return tuple(self._fields)

    def __eq__(self, other):
        return isinstance(other, Theory) and self.text() == other.text()

    def __len__(self):
        return len(self._axioms)

    def __repr__(self):
        return f"Theory({self._power}: {sizes_text(list(self._fields))})"

    def axioms(self):
        """The list of the axioms."""
        return list(self._axioms)

    def field(self, size):
        """The field of a size of the theory."""
        if not is_whole(size) or size not in self._fields:
            raise InvalidSize(size)
        return self._fields[size]

    def points(self, many):
        """The list of the points of the theory for so many elements."""
        return points_of(list(self._fields), many)

    def with_axiom(self, equation):
        """The theory with one axiom more at the end."""
        return Theory(self._power, self._axioms + [equation])

    def without(self, index):
        """The theory without the axiom with an index."""
        if not is_whole(index) or not 0 <= index < len(self._axioms):
            raise UnknownIndex(index)
        return Theory(self._power, self._axioms[:index] + self._axioms[index + 1:])

    def gives(self, other):
        """Whether each world of this theory is a world of another one."""
        return all([size in other.sizes for size in self._fields])

    def text(self):
        """The text of the theory."""
        return "\n".join([f"power {self._power}"] + [f"axiom {axiom.text()}" for axiom in self._axioms])
