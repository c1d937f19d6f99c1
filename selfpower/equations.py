"""Equations: two terms that are said to have the same value."""

from selfpower.errors import InvalidText, TooDeep, TooMany
from selfpower.terms import Term

BETWEEN = " = "


def equation_at(text, at):
    """The equation with a text that stands at a line of a longer one."""
    try:
        return Equation.read(text)
    except (InvalidText, TooDeep, TooMany):
        raise InvalidText(at) from None


class Equation:
    """An equation of two terms, one and other."""

    def __init__(self, one, other):
        self.one = Term.of(one)
        self.other = Term.of(other)

    @staticmethod
    def read(text):
        """The equation with a text."""
        if not isinstance(text, str) or BETWEEN not in text:
            raise InvalidText(0)
        one, _, other = text.partition(BETWEEN)
        return Equation(Term.read(one), Term.read(other))

    def __eq__(self, other):
        return isinstance(other, Equation) and self.text() == other.text()

    def __str__(self):
        return str(self.text())

    def __repr__(self):
        return f"Equation({self.text()})"

    def names(self):
        """The ascending list of the names in both terms, each once."""
        return sorted(set(self.one.names() + self.other.names()))

    def text(self):
        """The text of the equation."""
        return f"{self.one.text()} = {self.other.text()}"

    def holds(self, field, given):
        """Whether both terms have the same value in a field, for a dict from names to elements."""
        return self.one.evaluate(field, given) == self.other.evaluate(field, given)
