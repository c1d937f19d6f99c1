"""Telling: what some results tell about another one, in all worlds of a theory."""

from selfpower.errors import TooMany, UnknownName
from selfpower.grids import Grid, check_variables
from selfpower.places import Places, common_size
from selfpower.points import check_count
from selfpower.tables import Table
from selfpower.terms import Term

# The names of the shown terms in a table.
SHOWN = ("a", "b", "c", "d")

MOST_SHOWN = 4
MOST_CHOSEN_FROM = 8


def check_terms(names, shown, wished, most):
    """Raises the error of a question for what terms with these names tell, if it has one."""
    check_variables(names)
    if len(shown) > most:
        raise TooMany(most)
    for term in list(shown) + [wished]:
        for name in Term.of(term).names():
            if name not in names:
                raise UnknownName(name)


def told_by(theory, names, shown, wished):
    """A Told if the shown terms tell the wished one, otherwise a Hidden; names are those of the inputs."""
    check_terms(names, shown, wished, MOST_SHOWN)
    grid = Grid(theory, names)
    check_count(theory.sizes, len(shown))
    views = Views(grid, shown, wished)
    told, bars = views.told(list(range(len(shown))))
    if bars is not None:
        return views.hidden(bars)
    table_grid = Grid(theory, SHOWN[:len(shown)])
    return Told(Table(theory, table_grid, [told.get(point, 0) for point in table_grid.points()]))


def least_sets(theory, names, shown, wished):
    """The list of the least tuples of indexes of shown terms that tell the wished one, shorter ones first."""
    check_terms(names, shown, wished, MOST_CHOSEN_FROM)
    views = Views(Grid(theory, names), shown, wished)
    found = []
    waiting = [()]
    while waiting:
        longer = []
        for chosen in waiting:
            if not any([all([index in chosen for index in least]) for least in found]):
                _, bars = views.told(chosen)
                if bars is None:
                    found.append(chosen)
                else:
                    # Each least set begins with one that does not tell.
                    behind = max(chosen + (-1,)) + 1
                    longer.extend([chosen + (index,) for index in range(behind, len(shown))])
        waiting = longer
    return found


class Views:
    """What is shown and wished at the points of a grid of inputs."""

    def __init__(self, grid, shown, wished):
        self._theory = grid.theory
        self._places = Places(grid.theory)
        self._points = grid.points()
        self._shown = [grid.values_of(Term.of(term)) for term in shown]
        self._wished = grid.values_of(Term.of(wished))

    def told(self, chosen):
        """What the shown terms with the chosen indexes tell: a dict from points of them to the wished elements.

        It is the first one of a pair. The second one is None, or the pair of the places of two inputs that bar it.
        """
        told = {}
        earlier = {}
        for at, (size, _) in enumerate(self._points):
            point, sources = self._places.placed(size, tuple([self._shown[index][at] for index in chosen]))
            if self._wished[at] not in sources:
                # Turnings that leave the shown results as they are change the wished one.
                return told, (at, at)
            value = sources[self._wished[at]]
            if told.setdefault(point, value) != value:
                return told, (earlier[point], at)
            earlier.setdefault(point, at)
        return told, None

    def hidden(self, bars):
        """The Hidden for the places of two inputs that bar all shown terms."""
        first, second = self._points[bars[0]], self._points[bars[1]]
        size = common_size(self._theory, first[0], second[0])
        if size is None:
            return Hidden(first, second, None)
        field = self._theory.field(size)
        many = len(self._shown)
        one, other = [self._results(at, field.embedding(self._points[at][0])) for at in bars]
        # Turnings of the second input lead its shown results to those of the first one: they have the same point.
        while other[:many] != one[:many] or other[many] == one[many]:
            other = tuple([field.turned(item) for item in other])
        if first == second:
            second = (size, other[many + 1:])
        return Hidden(first, second, (size, one[many + 1:], other[many + 1:]))

    def _results(self, at, leading):
        """The shown results, the wished one and the row at a place, led into another field."""
        _, row = self._points[at]
        items = [values[at] for values in self._shown] + [self._wished[at]] + list(row)
        return tuple([leading[item] for item in items])


class Report:
    """What shown results tell about a wished one: Told or Hidden."""

    KIND = ""

    def __bool__(self):
        return bool(self.KIND == "told")

    def __repr__(self):
        return f"Report({self.KIND})"


class Told(Report):
    """A table has the wished result as its value whenever the values of its names are the shown ones."""

    KIND = "told"

    def __init__(self, table):
        self._table = table.copied()

    @property
    def table(self):
        """The table, over the names a, b, c and d for the shown terms in order."""
        return self._table.copied()


class Hidden(Report):
    """Two rows of inputs that bar it, and two of them in a common field that contradict each other."""

    KIND = "hidden"

    def __init__(self, first, second, common):
        self._first = first
        self._second = second
        self._common = common

    @property
    def first(self):
        """The pair of a size and the first row of inputs."""
        return self._first

    @property
    def second(self):
        """The pair of a size and the second row of inputs."""
        return self._second

    @property
    def common(self):
        """The triple of a size and two rows of inputs; None if no field of the theory has both fields in it."""
        return self._common
