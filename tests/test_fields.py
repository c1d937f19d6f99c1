import copy
import inspect
import unittest

from selfpower import fields
from selfpower.errors import InvalidPower, InvalidSize
from selfpower.fields import SIZES, Field, field_sizes
from tests import oracle
from tests.oracle import ALL_SIZES, BELOW, FIELDS, NO_NUMBERS

NO_SIZES = NO_NUMBERS + [0, 1, -1, -2, -4, 6, 10, 12, 14, 15, 18, 21, 33, 35, 62, 63, 65, 67, 81, 128, 10 ** 30]

FIELD_OF = {size: Field(size) for size in ALL_SIZES}


class Example(unittest.TestCase):
    def test_the_example_of_the_document(self):
        four, sixteen = Field(4), Field(16)
        self.assertEqual(
            [field_sizes(7), four.times(2, 3), four.turned(2), four.made(0, 1), sixteen.embedding(4)],
            [[2, 3, 4, 7], 1, 3, 2, [0, 1, 6, 7]])


class Interface(unittest.TestCase):
    def test_parameters(self):
        expected = {
            "plus": "(self, one, other)", "minus": "(self, one, other)", "times": "(self, one, other)",
            "raised": "(self, one, exponent)", "turned": "(self, one)", "number": "(self, value)",
            "is_member": "(self, value)", "made": "(self, *row)", "embedding": "(self, size)",
            "__init__": "(self, size)",
        }
        for name, text in expected.items():
            self.assertIn(name, vars(Field))
            self.assertEqual(str(inspect.signature(vars(Field)[name])), text)
        self.assertIn("__eq__", vars(Field))
        self.assertIn("__repr__", vars(Field))
        self.assertEqual(str(inspect.signature(field_sizes)), "(power)")

    def test_defined_here(self):
        self.assertEqual(Field.__module__, fields.__name__)
        self.assertEqual(field_sizes.__module__, fields.__name__)

    def test_calls_by_name(self):
        nine = Field(size=9)
        self.assertEqual(nine.plus(one=4, other=8), nine.plus(4, 8))
        self.assertEqual(nine.minus(other=8, one=4), nine.minus(4, 8))
        self.assertEqual(nine.times(one=4, other=8), nine.times(4, 8))
        self.assertEqual(nine.raised(exponent=3, one=4), nine.raised(4, 3))
        self.assertEqual(nine.turned(one=4), nine.turned(4))
        self.assertEqual(nine.number(value=5), 2)
        self.assertIs(nine.is_member(value=8), True)
        self.assertEqual(nine.embedding(size=3), [0, 1, 2])
        self.assertEqual(field_sizes(power=3), [2, 3])


class Sizes(unittest.TestCase):
    def test_the_sizes(self):
        self.assertEqual(SIZES, (2, 3, 4, 5, 7, 8, 9, 11, 13, 16, 17, 19, 23, 25, 27, 29, 31, 32, 37, 41, 43, 47, 49,
                                 53, 59, 61, 64))
        self.assertIs(type(SIZES), tuple)

    def test_field_sizes_of_each_power(self):
        for power in range(2, 65):
            expected = [size for size in ALL_SIZES if (power - 1) % (size - 1) == 0]
            self.assertEqual(field_sizes(power), expected)
            self.assertIs(type(field_sizes(power)), list)

    def test_field_sizes_by_hand(self):
        self.assertEqual(field_sizes(2), [2])
        self.assertEqual(field_sizes(3), [2, 3])
        self.assertEqual(field_sizes(4), [2, 4])
        self.assertEqual(field_sizes(6), [2])
        self.assertEqual(field_sizes(16), [2, 4, 16])
        self.assertEqual(field_sizes(61), [2, 3, 4, 5, 7, 11, 13, 16, 31, 61])
        self.assertEqual(field_sizes(64), [2, 4, 8, 64])

    def test_each_element_is_its_own_power_in_just_these_fields(self):
        for power in range(2, 65):
            found = [size for size in ALL_SIZES if
                     all(FIELD_OF[size].raised(item, power) == item for item in range(size))]
            self.assertEqual(field_sizes(power), found)

    def test_no_powers(self):
        for value in NO_NUMBERS + [1, 0, -1, -2, 65, 66, 128, 10 ** 30, -10 ** 30, [7], (7,)]:
            with self.subTest(value=value):
                before = copy.deepcopy(value)
                with self.assertRaises(InvalidPower) as caught:
                    field_sizes(value)
                self.assertEqual(repr(caught.exception.value), repr(before))
                self.assertEqual(value, before)

    def test_changes_of_the_list_have_no_effect(self):
        field_sizes(7).append(99)
        field_sizes(7).clear()
        self.assertEqual(field_sizes(7), [2, 3, 4, 7])


class Fields(unittest.TestCase):
    def test_attributes(self):
        for size, (prime, degree, _) in FIELDS.items():
            field = Field(size)
            self.assertEqual((field.size, field.prime, field.degree), (size, prime, degree))
            for value in (field.size, field.prime, field.degree):
                self.assertIs(type(value), int)

    def test_no_sizes(self):
        for value in NO_SIZES:
            with self.subTest(value=value):
                before = copy.deepcopy(value)
                with self.assertRaises(InvalidSize) as caught:
                    Field(value)
                self.assertEqual(repr(caught.exception.value), repr(before))
                self.assertEqual(value, before)

    def test_all_other_numbers_up_to_200_are_no_sizes(self):
        for value in range(-10, 200):
            if value not in ALL_SIZES:
                with self.assertRaises(InvalidSize):
                    Field(value)

    def test_members(self):
        for size in ALL_SIZES:
            field = FIELD_OF[size]
            for value in range(-size, 3 * size):
                self.assertIs(field.is_member(value), 0 <= value < size)
            for value in NO_NUMBERS + [10 ** 30, -10 ** 30, [0], (0,), "0"]:
                self.assertIs(field.is_member(value), False)

    def test_numbers(self):
        for size in ALL_SIZES:
            field, prime = FIELD_OF[size], FIELDS[size][0]
            for value in range(-150, 150):
                self.assertEqual(field.number(value), value % prime)
            self.assertEqual(field.number(10 ** 30), 10 ** 30 % prime)
            self.assertEqual(field.number(-10 ** 30), -10 ** 30 % prime)

    def test_a_number_stands_for_a_sum_of_ones(self):
        for size in ALL_SIZES:
            field, total = FIELD_OF[size], 0
            for value in range(70):
                self.assertEqual(field.number(value), total)
                self.assertEqual(field.number(-value), field.minus(0, total))
                total = field.plus(total, 1)

    def test_equality(self):
        for one in ALL_SIZES:
            for other in ALL_SIZES:
                self.assertIs(Field(one) == Field(other), one == other)
                self.assertIs(Field(one) != Field(other), one != other)

    def test_a_field_equals_nothing_of_another_kind(self):
        for value in NO_NUMBERS + [4, "Field(4)", [0, 1, 2, 3], (0, 1, 2, 3), InvalidSize(4), Field]:
            self.assertIs(Field(4) == value, False)
            self.assertIs(value == Field(4), False)
            self.assertIs(Field(4) != value, True)

    def test_repr(self):
        for size in ALL_SIZES:
            self.assertEqual(repr(Field(size)), "Field(" + str(size) + ")")
        self.assertEqual(repr(Field(4)), "Field(4)")


class SumsAndProducts(unittest.TestCase):
    def test_all_sums_differences_and_products(self):
        for size in ALL_SIZES:
            field = FIELD_OF[size]
            for one in range(size):
                for other in range(size):
                    self.assertEqual(field.plus(one, other), oracle.plus(size, one, other))
                    self.assertEqual(field.minus(one, other), oracle.minus(size, one, other))
                    self.assertEqual(field.times(one, other), oracle.times(size, one, other))

    def test_the_modulus_of_each_size_by_hand(self):
        # t ** degree is the opposite of the rest of the modulus; t is the prime as an element.
        wrapped = {4: 3, 8: 3, 9: 2, 16: 3, 25: 3, 27: 5, 32: 5, 49: 6, 64: 3}
        for size, expected in wrapped.items():
            field = FIELD_OF[size]
            below = size // field.prime
            self.assertEqual(field.times(field.prime, below), expected)
            self.assertEqual(field.raised(field.prime, field.degree), expected)

    def test_primes_compute_modulo_the_prime(self):
        for size in [2, 3, 5, 7, 11, 13, 17, 19, 23, 29, 31, 37, 41, 43, 47, 53, 59, 61]:
            field = FIELD_OF[size]
            for one in range(size):
                for other in range(size):
                    self.assertEqual(field.plus(one, other), (one + other) % size)
                    self.assertEqual(field.minus(one, other), (one - other) % size)
                    self.assertEqual(field.times(one, other), one * other % size)

    def test_answers_are_whole_numbers(self):
        for size in ALL_SIZES:
            field = FIELD_OF[size]
            for answer in (field.plus(1, 1), field.minus(0, 1), field.times(1, 1), field.raised(1, 0),
                           field.raised(size - 1, 3), field.turned(size - 1), field.number(-1)):
                self.assertIs(type(answer), int)
                self.assertTrue(field.is_member(answer))


class Laws(unittest.TestCase):
    def test_sums_and_products_may_be_turned_about(self):
        for size, field in FIELD_OF.items():
            for one in range(size):
                for other in range(one):
                    self.assertEqual(field.plus(one, other), field.plus(other, one))
                    self.assertEqual(field.times(one, other), field.times(other, one))

    def test_zero_one_opposites_and_inverses(self):
        for size, field in FIELD_OF.items():
            for one in range(size):
                self.assertEqual(field.plus(one, 0), one)
                self.assertEqual(field.times(one, 1), one)
                self.assertEqual(field.times(one, 0), 0)
                self.assertEqual(field.minus(one, one), 0)
                self.assertEqual(field.plus(one, field.minus(0, one)), 0)
                inverses = [other for other in range(size) if field.times(one, other) == 1]
                self.assertEqual(len(inverses), 0 if one == 0 else 1)

    def test_differences_undo_sums(self):
        for size, field in FIELD_OF.items():
            for one in range(size):
                for other in range(size):
                    self.assertEqual(field.minus(field.plus(one, other), other), one)

    def test_sums_and_products_of_three(self):
        for size, field in FIELD_OF.items():
            plus = [[field.plus(one, other) for other in range(size)] for one in range(size)]
            times = [[field.times(one, other) for other in range(size)] for one in range(size)]
            for one in range(size):
                for other in range(size):
                    total, product = plus[one][other], times[one][other]
                    self.assertEqual(plus[total], [plus[one][last] for last in plus[other]])
                    self.assertEqual(times[product], [times[one][last] for last in times[other]])
                    self.assertEqual(times[total], [plus[a][b] for a, b in zip(times[one], times[other])])


class Powers(unittest.TestCase):
    def test_small_exponents(self):
        for size, field in FIELD_OF.items():
            for item in range(size):
                power = 1
                for exponent in range(0, 2 * size + 3):
                    self.assertEqual(field.raised(item, exponent), power)
                    power = field.times(power, item)

    def test_the_exponent_zero(self):
        for size, field in FIELD_OF.items():
            for item in range(size):
                self.assertEqual(field.raised(item, 0), 1)

    def test_large_exponents(self):
        for size, field in FIELD_OF.items():
            for exponent in (size, size ** 3, 10 ** 30, 10 ** 30 + 7, 10 ** 31 - 1, 10 ** 400 + 3, 2 ** 40000 + 1,
                             7 ** 30000, (size - 1) * 10 ** 500):
                for item in range(size):
                    if item == 0:
                        self.assertEqual(field.raised(item, exponent), 0)
                    else:
                        rest = exponent % (size - 1)
                        self.assertEqual(field.raised(item, exponent), oracle.power(size, item, rest))

    def test_turnings(self):
        for size, field in FIELD_OF.items():
            for item in range(size):
                self.assertEqual(field.turned(item), oracle.power(size, item, field.prime))

    def test_as_many_turnings_as_the_degree_change_nothing(self):
        for size, field in FIELD_OF.items():
            for item in range(size):
                turned = item
                for _ in range(field.degree):
                    turned = field.turned(turned)
                self.assertEqual(turned, item)

    def test_turnings_keep_sums_and_products(self):
        for size in (4, 8, 9, 16, 25, 27, 32, 49, 64):
            field = FIELD_OF[size]
            for one in range(size):
                for other in range(size):
                    self.assertEqual(field.turned(field.plus(one, other)),
                                     field.plus(field.turned(one), field.turned(other)))
                    self.assertEqual(field.turned(field.times(one, other)),
                                     field.times(field.turned(one), field.turned(other)))


class SizesMade(unittest.TestCase):
    def test_the_empty_row_makes_the_prime(self):
        for size, field in FIELD_OF.items():
            self.assertEqual(field.made(), FIELDS[size][0])

    def test_rows_of_one(self):
        for size, field in FIELD_OF.items():
            for item in range(size):
                self.assertEqual(field.made(item), oracle.made(size, (item,)))

    def test_rows_of_two(self):
        for size in (2, 4, 5, 8, 9, 16, 25, 27):
            for one in range(size):
                for other in range(size):
                    self.assertEqual(FIELD_OF[size].made(one, other), oracle.made(size, (one, other)))

    def test_by_hand(self):
        self.assertEqual(Field(4).made(2), 4)
        self.assertEqual(Field(4).made(1, 1, 0, 3), 4)
        self.assertEqual(Field(16).made(6), 4)
        self.assertEqual(Field(16).made(6, 2), 16)
        self.assertEqual(Field(27).made(2, 1, 0), 3)

    def test_what_two_fields_make_together(self):
        field = FIELD_OF[64]
        four = [item for item in field.embedding(4) if item > 1]
        eight = [item for item in field.embedding(8) if item > 1]
        for one in four:
            self.assertEqual(field.made(one), 4)
            for other in eight:
                self.assertEqual(field.made(other), 8)
                self.assertEqual(field.made(one, other), 64)
                self.assertEqual(field.made(other, 0, one, 1), 64)


class Embeddings(unittest.TestCase):
    def test_where_one_field_lies_in_the_other(self):
        for small in ALL_SIZES:
            for great in ALL_SIZES:
                if oracle.lies_in(small, great):
                    with self.subTest(small=small, great=great):
                        led = FIELD_OF[great].embedding(small)
                        self.assertEqual(led, list(oracle.embedding(small, great)))
                        self.assertEqual([type(item) for item in led], [int] * small)

    def test_they_keep_sums_and_products(self):
        for small, great in BELOW + [(size, size) for size in ALL_SIZES]:
            led = FIELD_OF[great].embedding(small)
            self.assertEqual(len(set(led)), small)
            self.assertEqual(led[:2], [0, 1])
            for one in range(small):
                for other in range(small):
                    self.assertEqual(led[FIELD_OF[small].plus(one, other)],
                                     FIELD_OF[great].plus(led[one], led[other]))
                    self.assertEqual(led[FIELD_OF[small].times(one, other)],
                                     FIELD_OF[great].times(led[one], led[other]))

    def test_t_is_led_to_the_least_root(self):
        for small, great in BELOW:
            if FIELDS[small][1] > 1:
                led = FIELD_OF[great].embedding(small)
                roots = {led[other] for other in range(small) if
                         oracle.made(small, (other,)) == small and self._is_root(small, other)}
                self.assertEqual(led[FIELDS[small][0]], min(roots))
                self.assertEqual(len(roots), FIELDS[small][1])

    def _is_root(self, size, item):
        value = 0
        for place, part in enumerate(FIELDS[size][2]):
            value = oracle.plus(size, value, oracle.times(size, part, oracle.power(size, item, place)))
        return value == 0

    def test_each_field_lies_in_itself(self):
        for size, field in FIELD_OF.items():
            self.assertEqual(field.embedding(size), list(range(size)))

    def test_the_prime_lies_in_each_field(self):
        for size, field in FIELD_OF.items():
            self.assertEqual(field.embedding(field.prime), list(range(field.prime)))

    def test_where_no_field_lies_in_the_other(self):
        for small in ALL_SIZES:
            for great in ALL_SIZES:
                if not oracle.lies_in(small, great):
                    with self.subTest(small=small, great=great):
                        with self.assertRaises(InvalidSize) as caught:
                            FIELD_OF[great].embedding(small)
                        self.assertEqual(caught.exception.value, small)

    def test_no_sizes(self):
        for great in (2, 4, 16, 61, 64):
            for value in NO_SIZES:
                before = copy.deepcopy(value)
                with self.assertRaises(InvalidSize) as caught:
                    FIELD_OF[great].embedding(value)
                self.assertEqual(repr(caught.exception.value), repr(before))
                self.assertEqual(value, before)

    def test_changes_of_the_list_have_no_effect(self):
        field = Field(16)
        for size in (2, 4, 16):
            first = field.embedding(size)
            expected = list(first)
            first.reverse()
            first.append(77)
            self.assertEqual(field.embedding(size), expected)
        for size in (4, 8, 64):
            Field(64).embedding(size).clear()
        self.assertEqual(Field(64), FIELD_OF[64])
        self.assertEqual(Field(64).embedding(4), list(oracle.embedding(4, 64)))


if __name__ == "__main__":
    unittest.main()
