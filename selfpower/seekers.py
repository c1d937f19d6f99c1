"""Seekers: unknown elements of a field, found by what is seen of terms."""

from selfpower.errors import Clash, InvalidElement, NothingLeft, TooMany, UnknownName
from selfpower.grids import check_variables, columns_of
from selfpower.points import rows_behind, whole_power
from selfpower.terms import Term

MOST_ROWS = 6000


class Seeker:
    """Looks for unknown elements of the field of a size of a theory, one for each name."""

    def __init__(self, theory, size, names):
        check_variables(names)
        self._field = theory.field(size)
        if whole_power(size, len(names)) > MOST_ROWS:
            raise TooMany(MOST_ROWS)
        self._names = list(names)
        self._seen = []
        # The rows that are possible at first, and behind each thing seen.
        self._rows = [rows_behind((), self._field, len(names))]

    @property
    def many(self):
        """How many rows of elements are still possible."""
        return len(self._rows[-1])

    def left(self):
        """The ascending list of the rows that are still possible."""
        return list(self._rows[-1])

    def seen(self):
        """The list of the pairs of the text of a term and its value, in the order in which they were seen."""
        return list(self._seen)

    def see(self, term, value):
        """Takes it that the term has this value."""
        found = self._column(term)
        if not self._field.is_member(value):
            raise InvalidElement(value)
        rows = [row for row, item in zip(self._rows[-1], found) if item == value]
        if not rows:
            raise Clash()
        self._rows.append(rows)
        self._seen.append((Term.of(term).text(), value))

    def sure(self, term):
        """The value of the term if it is the same for all possible rows, otherwise None."""
        found = self._column(term)
        return found[0] if found == [found[0]] * len(found) else None

    def undo(self):
        """Takes the last thing seen back."""
        if not self._seen:
            raise NothingLeft()
        self._rows.pop()
        self._seen.pop()

    def _column(self, term):
        """The list of the values of a term for the rows that are still possible."""
        term = Term.of(term)
        for name in term.names():
            if name not in self._names:
                raise UnknownName(name)
        columns = columns_of(self._rows[-1], len(self._names))
        return term.column(self._field, {name: columns[at] for at, name in enumerate(self._names)}, self.many)
