"""Tables once more: plain dicts from points to values."""

import itertools

from selfpower.fields import field_sizes
from tests import oracle, run_oracle, term_oracle

# Powers, and how many names to take with them: few points, all kinds of fields.
SHAPES = [(2, 0), (2, 3), (3, 0), (3, 2), (4, 1), (4, 2), (5, 1), (7, 1), (7, 0), (8, 1), (9, 1), (16, 1), (25, 1), (27, 1),
          (64, 1), (61, 0), (31, 1), (3, 4), (49, 1), (32, 1)]


def points(power, many):
    return run_oracle.points(field_sizes(power), many)


def column(model, power, names):
    """The values of a model at all points."""
    return [term_oracle.value(model, size, dict(zip(names, row))) for size, row in points(power, len(names))]


def value_at(values, power, many, size, row):
    """The value of the table with these values at a row: its point is sought by trying all turnings."""
    point, leading = oracle.point_and_leading(size, row)
    return leading[values[points(power, many).index(point)]]


def rank(values, power, many):
    total, place = 0, 1
    for value, (size, _) in zip(values, points(power, many)):
        total += place * value
        place *= size
    return total


def rows(size, many):
    return itertools.product(range(size), repeat=many)
