"""What is told and what bars, and what lies in the middle, once more: straight from the words, for all rows.

Rows stand with the sizes of their fields, as pairs (size, row).
"""

import functools
import itertools

from selfpower.fields import Field
from tests import oracle

FIELDS = {size: Field(size) for size in oracle.ALL_SIZES}


@functools.cache
def point_and_leading(size, row):
    return oracle.point_and_leading(size, row)


def point(size, row):
    """The point of a row, as a pair."""
    return point_and_leading(size, tuple(row))[0]


def all_rows(sizes, many):
    return [(size, row) for size in sizes for row in itertools.product(range(size), repeat=many)]


def value(term, names, size, row):
    return term.evaluate(FIELDS[size], dict(zip(names, row)))


def results(names, terms, rows):
    """A dict from each of some pairs (size, row) to the tuple of the values of terms."""
    return {(size, row): tuple(value(term, names, size, row) for term in terms) for size, row in rows}


def greats(sizes, one, other):
    """The sizes in whose fields both fields lie."""
    return [size for size in sizes if oracle.lies_in(one, size) and oracle.lies_in(other, size)]


class Question:
    """Whether shown terms tell a wished one, for a list of all sizes of a theory."""

    def __init__(self, sizes, names, shown, wished):
        self.sizes = sizes
        self.names = names
        self.rows = all_rows(sizes, len(names))
        self.shown = results(names, shown, self.rows)
        self.wished = results(names, [wished], self.rows)

    def contradict(self, size, one, other):
        """Whether two rows of a field have equal shown results and different wished ones."""
        return self.shown[size, one] == self.shown[size, other] and self.wished[size, one] != self.wished[size, other]

    def meet(self, size, first, second):
        """Whether rows of this field with the points of two rows contradict each other."""
        ones = [row for other, row in self.rows if other == size and point(size, row) == point(*first)]
        others = [row for other, row in self.rows if other == size and point(size, row) == point(*second)]
        return any(self.contradict(size, one, other) for one in ones for other in others)

    def bar(self, first, second):
        """Whether two rows bar it."""
        places = [point_and_leading(size, self.shown[size, row]) for size, row in (first, second)]
        if places[0][0] != places[1][0]:
            return False
        common = greats(self.sizes, first[0], second[0])
        if common:
            return any(self.meet(size, first, second) for size in common)
        wished = [self.wished[pair][0] for pair in (first, second)]
        if any(item not in leading for item, (_, leading) in zip(wished, places)):
            return False
        return places[0][1].index(wished[0]) != places[1][1].index(wished[1])

    def is_told(self):
        """Whether no two rows bar it. Rows with the same point are alike, so with many rows one for each point is tried."""
        rows = self.rows if len(self.rows) <= 30 else list({point(*pair): pair for pair in self.rows}.values())
        return not any(self.bar(first, second) for first in rows for second in rows)


def least_sets(sizes, names, shown, wished):
    """All sets of indexes that tell, without those that hold another one."""
    telling = []
    for many in range(len(shown) + 1):
        for chosen in itertools.combinations(range(len(shown)), many):
            if not any(set(least) <= set(chosen) for least in telling):
                if Question(sizes, names, [shown[index] for index in chosen], wished).is_told():
                    telling.append(chosen)
    return telling


def is_middle(sizes, facts, goal, table):
    """Whether a table over the shared names is a middle, for all rows of all fields."""
    known = sorted({name for fact in facts for name in fact.names()})
    for size, row in all_rows(sizes, len(known)):
        given = dict(zip(known, row))
        if all(fact.holds(FIELDS[size], given) for fact in facts):
            if table.lookup(size, tuple(given[name] for name in table.variables)) != 0:
                return False
    for size, row in all_rows(sizes, len(goal.names())):
        given = dict(zip(goal.names(), row))
        if not goal.holds(FIELDS[size], given):
            if table.lookup(size, tuple(given[name] for name in table.variables)) == 0:
                return False
    return True


def gives_fields(one, other):
    """Whether fields of the second shape, small, can get those of the first one, by all ways to give them."""
    greats_ = [great for great, count in other for _ in range(count)]
    choices = [[size for size, _ in one if oracle.lies_in(size, great)] for great in greats_]
    return any(all(given.count(size) >= count for size, count in one) for given in itertools.product(*choices))
