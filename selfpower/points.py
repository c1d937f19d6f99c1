"""Points: the rows of elements of all fields, where those that differ by turnings count as one."""

from selfpower.errors import InvalidElement, TooMany
from selfpower.fields import SIZES, Field, degree_of, lies_in

MOST_POINTS = 6000

# Each size has more than MOST_POINTS points of so many elements, so longer rows need not be counted.
LONG_ROW = 13


def whole_power(base, exponent):
    """The power of a whole number by an exponent from 0 on."""
    power = 1
    square = base
    while exponent > 0:
        if exponent % 2 == 1:
            power = power * square
        square = square * square
        exponent = exponent // 2
    return power


def count_points(size, many):
    """How many points there are with this size and rows of so many elements."""
    rows = whole_power(size, many)
    for small in SIZES:
        if small < size and lies_in(small, size):
            rows = rows - count_points(small, many) * degree_of(small)
    return rows // degree_of(size)


def check_count(sizes, many):
    """Raises TooMany if there are too many points with one of the sizes and rows of so many elements."""
    counted = min(many, LONG_ROW)
    if sum([count_points(size, counted) for size in sizes]) > MOST_POINTS:
        raise TooMany(MOST_POINTS)


def points_of(sizes, many):
    """The ascending list of the points with one of the sizes and rows of so many elements."""
    check_count(sizes, many)
    return [(size, row) for size in sorted(sizes) for row in point_rows(Field(size), many)]


def rows_behind(start, field, many):
    """The ascending list of the rows that begin with a tuple and have so many elements of a field behind it."""
    rows = [start]
    for _ in range(many):
        rows = [row + (item,) for row in rows for item in range(field.size)]
    return rows


def point_rows(field, many):
    """The ascending list of the rows of the points with the size of a field."""
    turned = [field.turned(item) for item in range(field.size)]
    return [row for row in rows_behind((), field, many) if is_least(row, turned, field.degree)]


def is_least(row, turned, degree):
    """Whether a row of a field is the row of a point with the size of this field."""
    other = row
    for _ in range(degree - 1):
        other = tuple([turned[item] for item in other])
        # A row that comes back to itself earlier makes a smaller size.
        if other <= row:
            return False
    return True


def field_of_row(size, row):
    """The field of a size, of which each item of a row has to be an element."""
    field = Field(size)
    for item in row:
        if not field.is_member(item):
            raise InvalidElement(item)
    return field


def leadings(field, small):
    """The list of the embedding of a small field into a field in which it lies, behind 0, 1, .. turnings."""
    leading = field.embedding(small.size)
    found = []
    for _ in range(small.degree):
        found.append(leading)
        leading = [leading[small.turned(item)] for item in range(small.size)]
    return found


def placed(field, small, row):
    """The row of the point of a row, and where each element of its field is led, as this row is led to the other.

    The first field is the one of the row, the small one that of the size that the row makes.
    """
    found = []
    for leading in leadings(field, small):
        sources = {place: item for item, place in enumerate(leading)}
        found.append((tuple([sources[item] for item in row]), leading))
    # The rows found all differ, as the row makes the small size: so the least pair has the least row.
    return min(found)


def point_of(size, row):
    """The point of a row of elements of the field of a size."""
    field = field_of_row(size, row)
    small = Field(field.made(*row))
    point_row, _ = placed(field, small, row)
    return (small.size, point_row)


def led(size, row, value):
    """Where an element of the field of the size of the point of a row is led, as the point is led to the row."""
    field = field_of_row(size, row)
    small = Field(field.made(*row))
    if not small.is_member(value):
        raise InvalidElement(value)
    _, leading = placed(field, small, row)
    return leading[value]
