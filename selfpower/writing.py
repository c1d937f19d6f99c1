"""Terms for tables: each table is the table of a term."""

from selfpower.errors import TooMany
from selfpower.terms import Term

MOST_WRITTEN = 100


def term_of(table):
    """A term that has this table, with names of the table."""
    if len(table) > MOST_WRITTEN:
        raise TooMany(MOST_WRITTEN)
    points = table.theory.points(len(table.variables))
    written = list(zip(points, table.entries()))
    return total([point_term(table, point, value) for point, value in written if value != 0])


def total(terms):
    """The sum of terms, nested as little as may be; 0 without terms."""
    while len(terms) > 1:
        paired = [terms[place] + terms[place + 1] for place in range(0, len(terms) - 1, 2)]
        terms = paired + terms[2 * len(paired):]
    if not terms:
        return Term.of(0)
    return terms[0]


def point_term(table, point, value):
    """A term with this value at a point and the value 0 at all other points of a table."""
    size, row = point
    field = table.theory.field(size)
    conditions = [(Term.of(field.prime), 0)]
    term = Term.of(value)
    if row:
        place = maker(field, row)
        names = table.variables
        x = Term.of(names[place])
        found = written_by(field, row[place])
        term = polynomial(x, found[value])
        # The maker is a root of its polynomial, and the others are what they are at the point, computed from it.
        highest = field.raised(row[place], field.degree)
        conditions.append((x.raised(field.degree), polynomial(x, found[highest])))
        conditions.extend([(names[at], polynomial(x, found[row[at]])) for at in range(len(row)) if at != place])
    for one, other in conditions[::-1]:
        term = Term.where(one, other, term, 0)
    return term


def maker(field, row):
    """The place of an item of a row that makes the size of the field by itself, as the row does.

    A size whose degree is a power of a prime has one greatest field within its own, so it needs such an item. Another
    degree only 64 has; its tables with at most 100 points have one name at most.
    """
    place = 0
    while field.made(row[place]) != field.size:
        place = place + 1
    return place


def written_by(field, item):
    """A dict from each element of a field to the coefficients that write it by an item that makes the size.

    They are those of a polynomial in the item, lowest first, of a degree below the degree of the size.
    """
    found = {0: ()}
    for _ in range(field.degree):
        longer = {}
        for value, digits in found.items():
            for digit in range(field.prime):
                longer[field.plus(field.times(value, item), digit)] = (digit,) + digits
        found = longer
    return found


def polynomial(x, digits):
    """The term of a polynomial in a term with these coefficients, lowest first."""
    return total([monomial(x, exponent, digit) for exponent, digit in enumerate(digits) if digit != 0])


def monomial(x, exponent, digit):
    """The product of a number and a power of a term, which is left out if it is 1."""
    if exponent == 0:
        return Term.of(digit)
    power = x if exponent == 1 else x.raised(exponent)
    if digit == 1:
        return power
    return digit * power
