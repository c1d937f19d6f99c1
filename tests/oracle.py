"""Another computation of the arithmetic, by polynomials and straight from the words of the document."""

import functools

# size: (prime, degree, the coefficients of the modulus, lowest first)
FIELDS = {
    2: (2, 1, None), 3: (3, 1, None), 4: (2, 2, [1, 1, 1]), 5: (5, 1, None), 7: (7, 1, None),
    8: (2, 3, [1, 1, 0, 1]), 9: (3, 2, [1, 0, 1]), 11: (11, 1, None), 13: (13, 1, None),
    16: (2, 4, [1, 1, 0, 0, 1]), 17: (17, 1, None), 19: (19, 1, None), 23: (23, 1, None),
    25: (5, 2, [2, 0, 1]), 27: (3, 3, [1, 2, 0, 1]), 29: (29, 1, None), 31: (31, 1, None),
    32: (2, 5, [1, 0, 1, 0, 0, 1]), 37: (37, 1, None), 41: (41, 1, None), 43: (43, 1, None),
    47: (47, 1, None), 49: (7, 2, [1, 0, 1]), 53: (53, 1, None), 59: (59, 1, None), 61: (61, 1, None),
    64: (2, 6, [1, 1, 0, 0, 0, 0, 1]),
}

ALL_SIZES = sorted(FIELDS)

# Each pair of different sizes of which the first field lies in the second one.
BELOW = [(2, 4), (2, 8), (2, 16), (2, 32), (2, 64), (4, 16), (4, 64), (8, 64), (3, 9), (3, 27), (5, 25), (7, 49)]

# What "any value" means in the document, without whole numbers.
NO_NUMBERS = [
    None, True, False, "", "2", "4", "x", "a longer string", (), (2,), (4, (1,)), ((), ("x", None)),
    [], [2], [4, 4], [None, [True, "x"]],
]


def digits(size, item):
    prime, degree, _ = FIELDS[size]
    found = []
    for _ in range(degree):
        item, digit = divmod(item, prime)
        found.append(digit)
    return found


def code(size, coefficients):
    prime = FIELDS[size][0]
    return sum(digit * prime ** place for place, digit in enumerate(coefficients))


def plus(size, one, other):
    prime = FIELDS[size][0]
    return code(size, [(a + b) % prime for a, b in zip(digits(size, one), digits(size, other))])


def minus(size, one, other):
    prime = FIELDS[size][0]
    return code(size, [(a - b) % prime for a, b in zip(digits(size, one), digits(size, other))])


def times(size, one, other):
    prime, degree, modulus = FIELDS[size]
    if degree == 1:
        return one * other % prime
    result = [0] * (2 * degree - 1)
    for place, a in enumerate(digits(size, one)):
        for shift, b in enumerate(digits(size, other)):
            result[place + shift] += a * b
    for place in range(2 * degree - 2, degree - 1, -1):
        top = result[place]
        for back, part in enumerate(modulus):
            result[place - degree + back] -= top * part
    return code(size, [digit % prime for digit in result[:degree]])


@functools.cache
def power(size, item, exponent):
    result = 1
    for _ in range(exponent):
        result = times(size, result, item)
    return result


def turnings(size, row):
    """The rows that come from a row by 0, 1, .. turnings, as many as the degree."""
    prime, degree, _ = FIELDS[size]
    rows = [tuple(row)]
    for _ in range(degree - 1):
        rows.append(tuple(power(size, item, prime) for item in rows[-1]))
    return rows


def made(size, row):
    prime, degree, _ = FIELDS[size]
    rows = turnings(size, row)
    for many in range(1, degree):
        if rows[many] == rows[0]:
            return prime ** many
    return size


def lies_in(small, great):
    return small == great or (small, great) in BELOW


@functools.cache
def root(small, great):
    """The least element of the great field that makes the modulus of the small one 0."""
    for item in range(great):
        value = 0
        for place, part in enumerate(FIELDS[small][2]):
            value = plus(great, value, times(great, part, power(great, item, place)))
        if value == 0:
            return item


@functools.cache
def embedding(small, great):
    if FIELDS[small][1] == 1:
        return tuple(range(small))
    t = root(small, great)
    found = []
    for item in range(small):
        value = 0
        for place, digit in enumerate(digits(small, item)):
            value = plus(great, value, times(great, digit, power(great, t, place)))
        found.append(value)
    # A tuple, as the answer is kept.
    return tuple(found)


def point_and_leading(size, row):
    """The point of a row, and where the elements of its field are led: by trying the embedding behind all turnings."""
    small = made(size, row)
    base = embedding(small, size)
    found = []
    for turned in turnings(small, range(small)):
        leading = [base[item] for item in turned]
        found.append((tuple(leading.index(item) for item in row), leading))
    found.sort()
    return (small, found[0][0]), found[0][1]


def orbits(size, many):
    """The least rows, ascending, of all rows of the field that make its size."""
    rows = [()]
    for _ in range(many):
        rows = [row + (item,) for row in rows for item in range(size)]
    turned = dict(zip(range(size), turnings(size, range(size))[1])) if FIELDS[size][1] > 1 else {}
    found = []
    for row in rows:
        orbit = {row}
        other = row
        for _ in range(FIELDS[size][1] - 1):
            other = tuple(turned[item] for item in other)
            orbit.add(other)
        if len(orbit) == FIELDS[size][1] and min(orbit) == row:
            found.append(row)
    return found
