import itertools
import random
import unittest

from selfpower.equations import Equation
from selfpower.errors import InvalidElement, InvalidNumber, InvalidSize, UnknownPoint
from selfpower.fields import Field, field_sizes
from selfpower.tables import Table
from selfpower.terms import Term
from selfpower.theories import Theory
from tests import oracle, table_oracle, term_oracle
from tests.checks import Case, NONE, ODD
from tests.oracle import NO_NUMBERS
from tests.table_oracle import SHAPES

NO_POINTS = NO_NUMBERS + [
    0, 2, 4, (2,), (2, 0), (2, [0]), [2, (0,)], (4, [2]), [4, (2,)], [4, [2]], ((4, (2,)),), (4, (2,), 0), (4, 2), ("4", (2,)),
    (True, (0,)), (2, (True,)), (2, (False,)), (4, (True,)), (2, (0, 0)), (2, ()), (2, (2,)), (2, (-1,)), (4, (0,)), (4, (1,)),
    (4, (3,)), (4, (4,)), (4, ("2",)), (4, ((2,),)), (4, ([2],)), (4, (None,)), (None, (2,)), ([4], (2,)), ((4,), (2,)), (3, (0,)),
    (8, (2,)), (6, (0,)), (16, (2,)), (1, (0,)), (0, (0,)), (-2, (0,)), {4: (2,)}, Field(4), Term.of("x")]


def table_by(seed):
    chance = random.Random(seed)
    power, many = SHAPES[seed % len(SHAPES)]
    points = table_oracle.points(power, many)
    return Table(Theory(power), ["x", "y", "z", "a"][:many], [chance.randrange(size) for size, _ in points]), power, many, points


class AtPoints(Case):
    def test_values(self):
        for seed in range(len(SHAPES)):
            table, _, _, points = table_by(seed)
            self.assertEqual([table[point] for point in points], table.entries())

    def test_changes(self):
        for seed in range(len(SHAPES)):
            table, _, _, points = table_by(seed)
            values = table.entries()
            for place in range(0, len(points), 1 + len(points) // 40):
                size, _ = points[place]
                for value in {0, 1, size - 1, size // 2}:
                    table[points[place]] = value
                    values[place] = value
                    self.assertEqual([table[points[place]], table.entries()], [value, values])
                    other = (value + 1) % size
                    values[place] = other
                    self.assertIsNone(table.put(points[place], other))
                    self.assertEqual([table[points[place]], table.entries()], [other, values])
            self.assertEqual(table, Table(table.theory, table.variables, values))

    def test_points_in_it(self):
        for seed in range(len(SHAPES)):
            table, power, many, points = table_by(seed)
            for point in points:
                self.assertIs(point in table, True)
            known = set(points)
            for size in (2, 3, 4, 5, 8, 9):
                for row in itertools.islice(table_oracle.rows(size, many), 300):
                    self.assertIs((size, row) in table, (size, row) in known)

    def test_no_points(self):
        table = Table(Theory(4), ["x"], [1, 0, 3])
        for value in NO_POINTS:
            self.assertIs(value in table, False, value)
            self.refused(UnknownPoint, value, lambda point: table[point], value)
            self.refused(UnknownPoint, value, table.__setitem__, value, 0)
            self.refused(UnknownPoint, value, table.put, value, 0)
            # An unknown point goes ahead of a wrong element.
            self.refused(UnknownPoint, value, table.put, value, None)
            self.refused(UnknownPoint, value, table.__setitem__, value, 64)
        for value in (table, table.copied()):
            self.assertIs(value in table, False)
        self.assertEqual(table.entries(), [1, 0, 3])
        for other in (Table(NONE, ["x"], []), Table(Theory(4), [], [1]), Table(Theory(4), ["x", "y"], [0] * 10)):
            for point in [(2, (0,)), (2, (1,)), (4, (2,))]:
                self.refused(UnknownPoint, point, other.put, point, 0)
                self.assertIs(point in other, False)

    def test_points_without_names(self):
        table = Table(Theory(3), [], [1, 2])
        self.assertEqual([table[(2, ())], table[(3, ())], (2, ()) in table, (4, ()) in table], [1, 2, True, False])
        for value in (2, (2,), (2, 0), (2, []), [2, ()], (), ((), 2), (True, ()), (2, (0,))):
            self.refused(UnknownPoint, value, table.put, value, 1)

    def test_wrong_elements(self):
        table = Table(Theory(7), ["x"], [0] * 13)
        for point in table.theory.points(1):
            for value in NO_NUMBERS + [-1, point[0], point[0] + 1, 10 ** 30, (0,), [0], Field(4)]:
                self.refused(InvalidElement, value, table.put, point, value)
                self.refused(InvalidElement, value, table.__setitem__, point, value)
        self.assertEqual(table.entries(), [0] * 13)


class AtRows(Case):
    def test_values_by_turnings(self):
        for power, many in SHAPES:
            table, _, _, _ = table_by(SHAPES.index((power, many)))
            for size in field_sizes(power):
                for row in itertools.islice(table_oracle.rows(size, many), 0, None, 1 + size ** many // 60):
                    self.assertEqual(table.lookup(size, row), table_oracle.value_at(table.entries(), power, many, size, row))

    def test_all_rows_of_small_fields(self):
        for power, many in ((4, 1), (4, 2), (16, 1), (9, 1), (64, 1), (27, 1)):
            table = Table.ranked(Theory(power), ["x", "y"][:many], 10 ** 6 * 7 % 16 ** many)
            for size in field_sizes(power):
                for row in table_oracle.rows(size, many):
                    self.assertEqual(table.lookup(size, row), table_oracle.value_at(table.entries(), power, many, size, row))

    def test_values_of_terms(self):
        """The value of the table of a term at a row is the value of the term there."""
        for seed in range(60):
            power, many = SHAPES[seed % len(SHAPES)]
            names = ["x", "y", "z", "a"][:many]
            fillings = {name: names[place % many] if many else 2 for place, name in enumerate(term_oracle.NAMES)}
            model = term_oracle.filled(term_oracle.model_of(seed, 4), fillings)
            table = Table.of(Theory(power), names, term_oracle.made(model))
            chance = random.Random(seed)
            for size in field_sizes(power):
                for _ in range(10):
                    row = tuple(chance.randrange(size) for _ in names)
                    self.assertEqual(table.lookup(size, row), term_oracle.value(model, size, dict(zip(names, row))))

    def test_rows_of_points(self):
        for seed in range(len(SHAPES)):
            table, _, _, points = table_by(seed)
            self.assertEqual([table.lookup(size, row) for size, row in points], table.entries())
            for size, row in points:
                for turned in oracle.turnings(size, row):
                    self.assertIs(type(table.lookup(size, turned)), int)

    def test_it_is_not_changed(self):
        table = Table(Theory(16), ["x"], [1, 0, 3, 7, 9, 2])
        for row in table_oracle.rows(16, 1):
            table.lookup(16, row)
        self.assertEqual(table.entries(), [1, 0, 3, 7, 9, 2])
        table[(4, (2,))] = 0
        self.assertEqual([table.lookup(16, (6,)), table.lookup(16, (7,)), table.lookup(4, (3,))], [0, 0, 0])

    def test_wrong_sizes(self):
        for theory in (Theory(4), ODD, NONE):
            table = Table(theory, ["x"], [0] * len(theory.points(1)))
            for value in NO_NUMBERS + [size for size in [0, 1, -2, 6, 10 ** 30] + oracle.ALL_SIZES if size not in theory.sizes]:
                self.refused(InvalidSize, value, table.lookup, value, (0,))
                # A wrong size goes ahead of wrong elements and of their number.
                self.refused(InvalidSize, value, table.lookup, value, (None,))
                self.refused(InvalidSize, value, table.lookup, value, ())

    def test_wrong_elements(self):
        table = Table(Theory(4), ["x", "y"], [0] * 10)
        for size in (2, 4):
            for value in NO_NUMBERS + [-1, size, size + 1, 10 ** 30, Equation(0, 0)]:
                self.refused(InvalidElement, value, table.lookup, size, (value, 0))
                self.refused(InvalidElement, value, table.lookup, size, (1, value))
                self.refused(InvalidElement, value, table.lookup, size, (value, None))
                # A wrong element goes ahead of a wrong number of them.
                self.refused(InvalidElement, value, table.lookup, size, (value,))
                self.refused(InvalidElement, value, table.lookup, size, (0, 1, value, None))

    def test_how_many_elements(self):
        for names in ([], ["x"], ["x", "y"], ["a", "b", "c", "d"]):
            table = Table(Theory(2), names, [0] * 2 ** len(names))
            for many in range(7):
                if many != len(names):
                    self.refused(InvalidNumber, many, table.lookup, 2, (1,) * many)
            self.assertEqual(table.lookup(2, (1,) * len(names)), 0)


if __name__ == "__main__":
    unittest.main()
