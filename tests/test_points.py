import copy
import inspect
import unittest

from selfpower import points
from selfpower.errors import InvalidElement, InvalidSize, TooMany
from selfpower.fields import Field
from selfpower.points import MOST_POINTS, count_points, led, point_of, points_of
from tests import oracle
from tests.oracle import ALL_SIZES, BELOW, FIELDS, NO_NUMBERS

NO_SIZES = NO_NUMBERS + [0, 1, -2, 6, 10, 63, 65, 10 ** 30]

# With two names, these sizes have exactly 6000 points, and the second ones 6001.
EXACTLY = [4, 5, 7, 8, 11, 13, 17, 19, 23, 25, 27, 29, 37, 41]
ONE_MORE = [3, 5, 8, 9, 11, 16, 17, 19, 23, 25, 27, 31, 37, 41]


def rows_of(size, many):
    rows = [()]
    for _ in range(many):
        rows = [row + (item,) for row in rows for item in range(size)]
    return rows


def some_rows():
    """Rows of each size: all of none or one element, and some of more."""
    for size in ALL_SIZES:
        for row in rows_of(size, 0) + rows_of(size, 1):
            yield size, row
        step = max(1, size * size // 40)
        for row in rows_of(size, 2)[::step]:
            yield size, row
        for item in range(0, size, 5):
            yield size, (item, size - 1 - item, 1, item * item % size)


class Example(unittest.TestCase):
    def test_the_example_of_the_document(self):
        self.assertEqual(
            [points_of([2, 4], 1), count_points(4, 2), point_of(16, (7,)), led(16, (7,), 2), led(16, (7,), 3)],
            [[(2, (0,)), (2, (1,)), (4, (2,))], 6, (4, (2,)), 7, 6])


class Interface(unittest.TestCase):
    def test_parameters(self):
        for function, text in ((count_points, "(size, many)"), (points_of, "(sizes, many)"),
                               (point_of, "(size, row)"), (led, "(size, row, value)")):
            self.assertEqual(str(inspect.signature(function)), text)
            self.assertEqual(function.__module__, points.__name__)

    def test_calls_by_name(self):
        self.assertEqual(count_points(many=2, size=4), 6)
        self.assertEqual(points_of(many=1, sizes=[2]), [(2, (0,)), (2, (1,))])
        self.assertEqual(point_of(row=(7,), size=16), (4, (2,)))
        self.assertEqual(led(value=2, row=(7,), size=16), 7)

    def test_the_most_points(self):
        self.assertEqual(MOST_POINTS, 6000)
        self.assertIs(type(MOST_POINTS), int)


class Counting(unittest.TestCase):
    def test_as_many_as_there_are(self):
        for size in ALL_SIZES:
            for many in range(0, 6):
                if size ** many <= 5000:
                    with self.subTest(size=size, many=many):
                        self.assertEqual(count_points(size, many), len(oracle.orbits(size, many)))

    def test_no_elements(self):
        for size in ALL_SIZES:
            self.assertEqual(count_points(size, 0), 1 if FIELDS[size][1] == 1 else 0)

    def test_long_rows(self):
        self.assertEqual(count_points(2, 200), 2 ** 200)
        self.assertEqual(count_points(61, 7), 61 ** 7)
        self.assertEqual(count_points(49, 30), (49 ** 30 - 7 ** 30) // 2)
        self.assertEqual(count_points(16, 30), (16 ** 30 - 4 ** 30) // 4)
        self.assertEqual(count_points(32, 30), (32 ** 30 - 2 ** 30) // 5)
        self.assertEqual(count_points(64, 30), (64 ** 30 - 8 ** 30 - 4 ** 30 + 2 ** 30) // 6)

    def test_answers_are_whole_numbers(self):
        for many in (0, 1, 2, 40):
            self.assertIs(type(count_points(64, many)), int)


class Listing(unittest.TestCase):
    def test_each_size(self):
        for size in ALL_SIZES:
            for many in range(0, 6):
                if size ** many <= 5000:
                    with self.subTest(size=size, many=many):
                        expected = [(size, row) for row in oracle.orbits(size, many)]
                        self.assertEqual(points_of([size], many), expected)

    def test_all_sizes_at_once(self):
        expected = sorted([(size, row) for size in ALL_SIZES for row in oracle.orbits(size, 1)])
        self.assertEqual(points_of(ALL_SIZES, 1), expected)
        self.assertEqual(points_of(tuple(ALL_SIZES), 1), expected)

    def test_sizes_in_any_order(self):
        for many in (0, 1, 2):
            expected = sorted(points_of([2], many) + points_of([3], many) + points_of([4], many)
                              + points_of([16], many) + points_of([27], many))
            for sizes in ([2, 3, 4, 16, 27], [27, 16, 4, 3, 2], [4, 27, 2, 16, 3], (16, 2, 27, 4, 3)):
                self.assertEqual(points_of(sizes, many), expected)

    def test_no_elements(self):
        self.assertEqual(points_of([4, 7, 2, 64], 0), [(2, ()), (7, ())])
        self.assertEqual(points_of([64, 49], 0), [])

    def test_no_sizes(self):
        for many in (0, 1, 5, 10 ** 30):
            self.assertEqual(points_of([], many), [])
            self.assertEqual(points_of((), many), [])

    def test_kinds_of_the_answer(self):
        for sizes, many in (([2, 9], 1), ([4], 2), ([3], 0)):
            answer = points_of(sizes, many)
            self.assertIs(type(answer), list)
            for point in answer:
                self.assertIs(type(point), tuple)
                self.assertEqual(len(point), 2)
                self.assertIs(type(point[0]), int)
                self.assertIs(type(point[1]), tuple)
                self.assertEqual([type(item) for item in point[1]], [int] * many)

    def test_as_many_as_counted(self):
        for sizes in ([2, 4, 16], [3, 9, 27], [8, 64], [61, 2, 5, 25]):
            for many in (0, 1, 2):
                self.assertEqual(len(points_of(sizes, many)), sum(count_points(size, many) for size in sizes))

    def test_nothing_passed_is_changed(self):
        sizes = [16, 2, 4]
        points_of(sizes, 1)
        self.assertEqual(sizes, [16, 2, 4])
        with self.assertRaises(TooMany):
            points_of(sizes, 9)
        self.assertEqual(sizes, [16, 2, 4])

    def test_changes_of_the_list_have_no_effect(self):
        points_of([2, 4], 1).clear()
        points_of([2, 4], 1).append((3, (1,)))
        self.assertEqual(points_of([2, 4], 1), [(2, (0,)), (2, (1,)), (4, (2,))])


class TooManyPoints(unittest.TestCase):
    def test_exactly_the_most(self):
        self.assertEqual(sum(count_points(size, 2) for size in EXACTLY), 6000)
        answer = points_of(EXACTLY, 2)
        self.assertEqual(len(answer), 6000)
        self.assertEqual(answer, sorted(set(answer)))
        self.assertEqual(points_of(EXACTLY[::-1], 2), answer)

    def test_one_more(self):
        self.assertEqual(sum(count_points(size, 2) for size in ONE_MORE), 6001)
        self._refused(ONE_MORE, 2)
        self._refused(ONE_MORE[::-1], 2)

    def test_the_nearest_counts_of_one_size(self):
        for size in ALL_SIZES:
            many = 0
            while count_points(size, many + 1) <= 6000:
                many += 1
            self.assertEqual(len(points_of([size], many)), count_points(size, many))
            self._refused([size], many + 1)

    def test_each_size_with_long_rows(self):
        for size in ALL_SIZES:
            for many in (13, 14, 30, 10 ** 6, 10 ** 30):
                self._refused([size], many)
        self._refused(ALL_SIZES, 10 ** 30)

    def test_the_longest_rows_that_are_listed(self):
        self.assertEqual(points_of([2], 12), [(2, row) for row in rows_of(2, 12)])

    def _refused(self, sizes, many):
        with self.assertRaises(TooMany) as caught:
            points_of(sizes, many)
        self.assertEqual(caught.exception.limit, 6000)


class PointsOfRows(unittest.TestCase):
    def test_the_words_of_the_document(self):
        for size, row in some_rows():
            self.assertEqual(point_of(size, row), oracle.point_and_leading(size, row)[0])

    def test_the_empty_row(self):
        for size in ALL_SIZES:
            self.assertEqual(point_of(size, ()), (FIELDS[size][0], ()))

    def test_kinds_of_the_answer(self):
        for size, row in ((16, ()), (16, (7,)), (9, (8, 0, 1))):
            point = point_of(size, row)
            self.assertIs(type(point), tuple)
            self.assertIs(type(point[0]), int)
            self.assertIs(type(point[1]), tuple)

    def test_points_are_the_points_of_their_rows(self):
        for sizes, many in ((ALL_SIZES, 1), ([2, 4, 16], 2), ([3, 9, 5], 2), ([4], 3), ([8, 2], 0)):
            for point in points_of(sizes, many):
                self.assertEqual(point_of(point[0], point[1]), point)

    def test_rows_that_differ_by_turnings_have_the_same_point_and_no_others(self):
        for size, many in ((4, 2), (8, 1), (9, 2), (16, 1), (16, 2), (27, 1), (32, 1), (49, 1), (64, 1)):
            found = {}
            for row in rows_of(size, many):
                found.setdefault(point_of(size, row), []).append(row)
            for rows in found.values():
                self.assertEqual(sorted(rows), sorted(set(oracle.turnings(size, rows[0]))))

    def test_embeddings_keep_points(self):
        for small, great in BELOW:
            leading = Field(great).embedding(small)
            for row in [()] + rows_of(small, 1) + rows_of(small, 2)[::7]:
                other = tuple(leading[item] for item in row)
                self.assertEqual(point_of(great, other), point_of(small, row))


class ValuesLed(unittest.TestCase):
    def test_the_words_of_the_document(self):
        for size, row in some_rows():
            point, leading = oracle.point_and_leading(size, row)
            for value in range(0, point[0], max(1, point[0] // 6)):
                self.assertEqual(led(size, row, value), leading[value])

    def test_the_point_is_led_to_the_row(self):
        for size, row in some_rows():
            _, point_row = point_of(size, row)
            self.assertEqual(tuple(led(size, row, item) for item in point_row), row)

    def test_sums_and_products_are_kept(self):
        eight = Field(64).embedding(8)
        for size, row in ((16, (7,)), (16, (6, 0)), (16, (11,)), (64, (9,)), (27, (4, 20)), (64, (eight[5], eight[1]))):
            small, great = Field(point_of(size, row)[0]), Field(size)
            leading = [led(size, row, value) for value in range(small.size)]
            self.assertEqual(len(set(leading)), small.size)
            for one in range(small.size):
                for other in range(small.size):
                    self.assertEqual(leading[small.plus(one, other)], great.plus(leading[one], leading[other]))
                    self.assertEqual(leading[small.times(one, other)], great.times(leading[one], leading[other]))

    def test_the_empty_row(self):
        for size in ALL_SIZES:
            prime = FIELDS[size][0]
            self.assertEqual([led(size, (), value) for value in range(prime)], list(range(prime)))

    def test_by_hand(self):
        self.assertEqual([led(4, (3,), value) for value in range(4)], [0, 1, 3, 2])
        self.assertEqual([led(4, (2,), value) for value in range(4)], [0, 1, 2, 3])
        self.assertEqual([led(16, (6,), value) for value in range(4)], [0, 1, 6, 7])
        self.assertEqual([led(16, (7,), value) for value in range(4)], [0, 1, 7, 6])


class WrongValues(unittest.TestCase):
    def _raises(self, kind, value, call, *arguments):
        before = copy.deepcopy(arguments)
        with self.assertRaises(kind) as caught:
            call(*arguments)
        self.assertEqual(repr(caught.exception.value), repr(value))
        self.assertEqual(repr(arguments), repr(before))

    def test_no_sizes(self):
        for value in NO_SIZES:
            for row in ((), (0,), (99,), ("x", [1])):
                self._raises(InvalidSize, value, point_of, value, row)
                for item in (0, 99, None, [1]):
                    self._raises(InvalidSize, value, led, value, row, item)

    def test_no_items(self):
        for size in (2, 3, 4, 16, 64):
            for value in NO_NUMBERS + [-1, size, size + 1, 100, 10 ** 30]:
                for row in ((value,), (0, value), (1, 0, value, 1)):
                    self._raises(InvalidElement, value, point_of, size, row)
                    self._raises(InvalidElement, value, led, size, row, 0)

    def test_the_first_item_that_is_wrong(self):
        for row in ((0, 4, 5), (4, -1), (3, 4, "x"), (4, True), (1, 4, None, 4)):
            self._raises(InvalidElement, 4, point_of, 4, row)
            self._raises(InvalidElement, 4, led, 4, row, 99)
        self._raises(InvalidElement, True, point_of, 4, (0, True, 4))
        self._raises(InvalidElement, [1], led, 4, (2, [1], "x"), None)

    def test_no_values(self):
        # The row tells the field of which the value has to be an element.
        for size, row, small in ((4, (2,), 4), (4, (1,), 2), (16, (6,), 4), (16, (2,), 16), (16, (), 2),
                                 (27, (2, 0), 3), (64, (1, 0), 2), (61, (60,), 61)):
            for value in NO_NUMBERS + [-1, small, small + 1, 100, 10 ** 30]:
                self._raises(InvalidElement, value, led, size, row, value)
            led(size, row, small - 1)

    def test_two_errors_at_once(self):
        self._raises(InvalidSize, 6, point_of, 6, (7, "x"))
        self._raises(InvalidSize, True, led, True, (7, "x"), None)
        self._raises(InvalidSize, 6, led, 6, (), 9)
        self._raises(InvalidElement, "x", led, 4, (0, "x"), 9)
        self._raises(InvalidElement, 9, led, 4, (0, 1), 9)


if __name__ == "__main__":
    unittest.main()
