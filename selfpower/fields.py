"""Sizes, and the fields with so many elements."""

from selfpower.errors import InvalidPower, InvalidSize
from selfpower.values import is_whole

SIZES = (2, 3, 4, 5, 7, 8, 9, 11, 13, 16, 17, 19, 23, 25, 27, 29, 31, 32, 37, 41, 43, 47, 49, 53, 59, 61, 64)

LEAST_POWER = 2
MOST_POWER = 64

# The modulus of a size is t ** degree plus the polynomial with this code. A prime has the modulus t.
MODULUS_CODES = {4: 3, 8: 3, 9: 1, 16: 3, 25: 2, 27: 7, 32: 5, 49: 1, 64: 3}


def is_size(value):
    """Whether any value is a size."""
    return is_whole(value) and value in SIZES


def prime_of(size):
    """The prime of a size."""
    for prime in (2, 3, 5, 7):
        if size % prime == 0:
            return prime
    # No size but a prime is the product of greater primes: all sizes are below 11 * 11.
    return size


def degree_of(size):
    """The degree of a size."""
    prime = prime_of(size)
    power = prime
    degree = 1
    while power < size:
        power = power * prime
        degree = degree + 1
    return degree


def lies_in(small, great):
    """Whether the field of one size lies in the field of another one."""
    return prime_of(small) == prime_of(great) and degree_of(great) % degree_of(small) == 0


def field_sizes(power):
    """The ascending list of the sizes in whose fields each element is its own power by this exponent."""
    if not is_whole(power) or not LEAST_POWER <= power <= MOST_POWER:
        raise InvalidPower(power)
    return [size for size in SIZES if (power - 1) % (size - 1) == 0]


def digits_of(item, prime, many):
    """So many digits of an element to the base of the prime, the lowest one first."""
    digits = []
    for _ in range(many):
        digits.append(item % prime)
        item = item // prime
    return digits


def modulus_of(size):
    """The coefficients of the modulus of a size, the lowest one first."""
    return digits_of(MODULUS_CODES.get(size, 0), prime_of(size), degree_of(size)) + [1]


def with_digit(table, prime):
    """A table of sums for elements with one digit more: the highest digit is added apart from the others."""
    place = len(table)
    longer = []
    for digit in range(prime):
        heads = [place * ((digit + top) % prime) for top in range(prime)]
        longer.extend([[head + low for head in heads for low in row] for row in table])
    return longer


def sum_table(prime, degree):
    """The rows of the sums of each element and all others."""
    table = [[0]]
    for _ in range(degree):
        table = with_digit(table, prime)
    return table


def times_t(size, sums):
    """The list of the products of t and each element."""
    prime = prime_of(size)
    place = size // prime
    # The modulus is 0, so t ** degree is the opposite of the rest of the modulus.
    wrapped = sums[MODULUS_CODES.get(size, 0)].index(0)
    carried = [0]
    for _ in range(prime - 1):
        carried.append(sums[carried[-1]][wrapped])
    return [sums[low * prime][carry] for carry in carried for low in range(place)]


def product_table(size, sums):
    """The rows of the products of each element and all others."""
    prime = prime_of(size)
    shifted = times_t(size, sums)
    table = [[0] * size]
    for item in range(1, size):
        if item % prime == 0:
            row = [shifted[value] for value in table[item // prime]]
        else:
            row = [sums[value][other] for other, value in enumerate(table[item - 1])]
        table.append(row)
    return table


class Field:
    """The field of a size: its elements are 0, 1, .., size - 1."""

    def __init__(self, size):
        if not is_size(size):
            raise InvalidSize(size)
        self.size = size
        self.prime = prime_of(size)
        self.degree = degree_of(size)
        self._sums = []
        self._opposites = []
        self._products = []
        # Polynomials are looked up, as terms are computed at thousands of points; numbers are computed at once.
        if self.degree > 1:
            self._sums = sum_table(self.prime, self.degree)
            self._opposites = [row.index(0) for row in self._sums]
            self._products = product_table(size, self._sums)

    def __eq__(self, other):
        return isinstance(other, Field) and self.size == other.size

    def __repr__(self):
        return f"Field({self.size})"

    def plus(self, one, other):
        """The sum of two elements."""
        if self.degree == 1:
            return (one + other) % self.prime
        return self._sums[one][other]

    def minus(self, one, other):
        """The difference of two elements."""
        if self.degree == 1:
            return (one - other) % self.prime
        return self._sums[one][self._opposites[other]]

    def times(self, one, other):
        """The product of two elements."""
        if self.degree == 1:
            return one * other % self.prime
        return self._products[one][other]

    def raised(self, one, exponent):
        """The power of an element by an exponent from 0 on."""
        if exponent == 0:
            return 1
        # Each element is its own power by the size, so great exponents need no more work than small ones.
        rest = (exponent - 1) % (self.size - 1) + 1
        power = 1
        square = one
        while rest > 0:
            if rest % 2 == 1:
                power = self.times(power, square)
            square = self.times(square, square)
            rest = rest // 2
        return power

    def turned(self, one):
        """The power of an element by the prime."""
        return self.raised(one, self.prime)

    def number(self, value):
        """The element of a whole number."""
        return value % self.prime

    def is_member(self, value):
        """Whether any value is an element."""
        return is_whole(value) and 0 <= value < self.size

    def made(self, *row):
        """The size that a row of elements makes."""
        start = list(row)
        turned = [self.turned(item) for item in start]
        size = self.prime
        while turned != start:
            turned = [self.turned(item) for item in turned]
            size = size * self.prime
        return size

    def embedding(self, size):
        """The list of the elements to which the embedding leads 0, 1, .. of the field of a size."""
        if not is_size(size) or not lies_in(size, self.size):
            raise InvalidSize(size)
        place = self._root(modulus_of(size))
        degree = degree_of(size)
        return [self._value_at(digits_of(item, self.prime, degree), place) for item in range(size)]

    def _root(self, modulus):
        """The least element that makes the modulus of a field that lies in this one 0: there is one."""
        item = 0
        while self._value_at(modulus, item) != 0:
            item = item + 1
        return item

    def _value_at(self, coefficients, item):
        """The value of a polynomial, with its lowest coefficient first, at an element."""
        value = 0
        for coefficient in coefficients[::-1]:
            value = self.plus(self.times(value, item), coefficient)
        return value
