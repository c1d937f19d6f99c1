import itertools
import random
import unittest

from selfpower.equations import Equation
from selfpower.errors import InvalidNumber, InvalidTerm, Unlike
from selfpower.fields import Field
from selfpower.programs import Program
from selfpower.tables import Table
from selfpower.terms import Term
from selfpower.theories import Theory
from selfpower.worlds import World
from tests import oracle, table_oracle, term_oracle
from tests.checks import Case, NONE
from tests.oracle import NO_NUMBERS
from tests.table_oracle import SHAPES

SIGNS = {
    "+": (lambda one, other: one + other, oracle.plus), "-": (lambda one, other: one - other, oracle.minus),
    "*": (lambda one, other: one * other, oracle.times),
}

NUMBERS = [0, 1, 2, 3, -1, -2, -3, 5, 64, 10 ** 30, 1 - 10 ** 31]

# What does not stand beside the signs.
OTHERS = NO_NUMBERS + [Theory(4), Term.of("x"), Term.of(1), Field(4), World(2), Equation(0, 0), Program("p", [], [], [1]), {}, set()]


def add_to(table, other):
    table += other
    return table


def take_from(table, other):
    table -= other
    return table


def multiply(table, other):
    table *= other
    return table


IN_PLACE = {"+": add_to, "-": take_from, "*": multiply}


def tables_by(seed):
    """Two tables for the same names, by chance, the power, and their points."""
    chance = random.Random(seed)
    power, many = SHAPES[seed % len(SHAPES)]
    points = table_oracle.points(power, many)
    made = [Table(Theory(power), ["x", "y", "z", "a"][:many], [chance.randrange(size) for size, _ in points]) for _ in range(2)]
    return made[0], made[1], power, points


class TwoTables(Case):
    def test_point_by_point(self):
        for seed in range(60):
            one, other, power, points = tables_by(seed)
            for sign, (call, plain) in SIGNS.items():
                expected = [plain(size, a, b) for (size, _), a, b in zip(points, one.entries(), other.entries())]
                made = call(one, other)
                self.assertEqual([made.entries(), made.theory, made.variables], [expected, one.theory, one.variables])
                self.assertIs(type(made), Table)

    def test_neither_is_changed(self):
        for seed in range(20):
            one, other, _, _ = tables_by(seed)
            before = [one.entries(), other.entries()]
            for call, _ in SIGNS.values():
                made = call(one, other)
                self.assertEqual([one.entries(), other.entries()], before)
                for point in made.theory.points(len(made.variables)):
                    made[point] = 1 - made[point] if made[point] < 2 else 0
                self.assertEqual([one.entries(), other.entries()], before)

    def test_a_table_with_itself(self):
        table = Table(Theory(4), ["x"], [1, 0, 3])
        self.assertEqual([(table + table).entries(), (table - table).entries(), (table * table).entries()],
                         [[0, 0, 0], [0, 0, 0], [1, 0, 2]])
        table *= table
        self.assertEqual(table.entries(), [1, 0, 2])
        table -= table
        self.assertEqual(table.entries(), [0, 0, 0])

    def test_equal_theories_that_are_two_objects(self):
        one, other = Table(Theory(3, [Equation(0, 0)]), ["x"], [1] * 5), Table(Theory(3, [Equation(0, 0)]), ("x",), [1] * 5)
        self.assertEqual((one + other).entries(), [0, 0, 2, 2, 2])

    def test_unlike_tables(self):
        tables = [Table(theory, names, [0] * len(theory.points(len(names)))) for theory in (
            Theory(4), Theory(4, [Equation(0, 0)]), Theory(10), Theory(2), NONE) for names in (["x"], ["y"], ["x", "y"], ["y", "x"], [])]
        for one, other in itertools.permutations(tables, 2):
            before = [one.copied(), other.copied()]
            for call in [call for call, _ in SIGNS.values()] + list(IN_PLACE.values()):
                with self.assertRaises(Unlike) as caught:
                    call(one, other)
                self.assertIs(type(caught.exception), Unlike)
                self.assertEqual([one, other], before)


class Numbers(Case):
    def test_on_either_side(self):
        for seed in range(40):
            table, _, power, points = tables_by(seed)
            for number in NUMBERS:
                elements = [number % oracle.FIELDS[size][0] for size, _ in points]
                for call, plain in SIGNS.values():
                    behind = [plain(size, a, b) for (size, _), a, b in zip(points, table.entries(), elements)]
                    ahead = [plain(size, b, a) for (size, _), a, b in zip(points, table.entries(), elements)]
                    before = table.entries()
                    self.assertEqual([call(table, number).entries(), call(number, table).entries()], [behind, ahead])
                    self.assertEqual(table.entries(), before)

    def test_other_values_on_either_side(self):
        for theory, names, values in ((Theory(4), ["x"], [1, 0, 3]), (NONE, ["x"], []), (Theory(2), [], [1])):
            table = Table(theory, names, values)
            for value in OTHERS:
                for call, _ in SIGNS.values():
                    for one, other in ((table, value), (value, table)):
                        with self.assertRaises(InvalidTerm) as caught:
                            call(one, other)
                        self.assertIs(type(caught.exception), InvalidTerm)
                        # A term on the left raises the error of its own: then the table is the other value.
                        told = table if isinstance(one, Term) else value
                        self.assertEqual(repr(caught.exception.value), repr(told))
                self.assertEqual(table.entries(), values)


class InPlace(Case):
    def test_the_table_itself_is_changed(self):
        for seed in range(40):
            table, other, _, points = tables_by(seed)
            for sign, call in IN_PLACE.items():
                for value in [other] + NUMBERS:
                    expected = SIGNS[sign][0](table, value)
                    changed, kept = table.copied(), other.copied()
                    self.assertIs(call(changed, value), changed)
                    self.assertEqual(changed, expected)
                    self.assertEqual(other, kept)

    def test_statements(self):
        table = same = Table(Theory(4), ["x"], [1, 0, 3])
        table += 1
        self.assertEqual([same.entries(), table is same], [[0, 1, 2], True])
        table -= Table(Theory(4), ["x"], [1, 1, 1])
        self.assertEqual([same.entries(), table is same], [[1, 0, 3], True])
        table *= 3
        self.assertEqual([same.entries(), table is same], [[1, 0, 3], True])
        table *= Table(Theory(4), ["x"], [0, 1, 2])
        self.assertEqual([same.entries(), table is same, same.rank, len(same)], [[0, 0, 1], True, 4, 3])

    def test_what_was_passed_is_not_kept(self):
        for call in IN_PLACE.values():
            table, other = Table(Theory(4), ["x"], [1, 1, 1]), Table(Theory(4), ["x"], [1, 0, 1])
            call(table, other)
            before = table.entries()
            other[(2, (0,))] = 0
            self.assertEqual(table.entries(), before)
            table[(4, (2,))] = 3
            self.assertEqual(other.entries(), [0, 0, 1])

    def test_other_values(self):
        for value in OTHERS:
            for call in IN_PLACE.values():
                table = Table(Theory(4), ["x"], [1, 0, 3])
                with self.assertRaises(InvalidTerm) as caught:
                    call(table, value)
                self.assertEqual(repr(caught.exception.value), repr(value))
                self.assertEqual(table.entries(), [1, 0, 3])


class Alone(Case):
    def test_opposites(self):
        for seed in range(40):
            table, _, _, points = tables_by(seed)
            before = table.entries()
            self.assertEqual((-table).entries(), [oracle.minus(size, 0, value) for (size, _), value in zip(points, before)])
            self.assertEqual([(-table).variables, table.entries(), -(-table)], [table.variables, before, table])
            (-table).put(points[0], 1)
            self.assertEqual(table.entries(), before)

    def test_where_it_is_0(self):
        for seed in range(40):
            table, _, _, points = tables_by(seed)
            before = table.entries()
            self.assertEqual((~table).entries(), [int(value == 0) for value in before])
            self.assertEqual((~table).zeros(), [point for point, value in zip(points, before) if value != 0])
            self.assertEqual([table.entries(), (~table).variables, (~table).theory], [before, table.variables, table.theory])
            self.assertEqual(table * ~table, table * 0)

    def test_kinds(self):
        table = Table(Theory(4), ["x"], [1, 0, 3])
        for made in (-table, ~table, table ** 2, table.raised(2)):
            self.assertIs(type(made), Table)
            self.assertEqual({type(value) for value in made.entries()}, {int})
            self.assertEqual({value for value in table.entries()}, {0, 1, 3})


class Powers(Case):
    def test_point_by_point(self):
        for seed in range(40):
            table, _, _, points = tables_by(seed)
            before = table.entries()
            for exponent in (0, 1, 2, 3, 5, 63, 64, 10 ** 29 + 7, 10 ** 30):
                expected = [term_oracle.power(size, value, exponent) for (size, _), value in zip(points, before)]
                for made in (table ** exponent, table.raised(exponent)):
                    self.assertEqual([made.entries(), made.theory, made.variables], [expected, table.theory, table.variables])
            self.assertEqual(table.entries(), before)
            self.assertEqual(table ** 0, table * 0 + 1)

    def test_other_exponents(self):
        for theory, names, values in ((Theory(4), ["x"], [1, 0, 3]), (NONE, ["x"], [])):
            table = Table(theory, names, values)
            for value in OTHERS + [-1, -2, 10 ** 30 + 1, 10 ** 31 - 1]:
                for call in (table.raised, lambda exponent: table ** exponent):
                    self.refused(InvalidNumber, value, call, value)
            for value in (table, Table(Theory(2), [], [1])):
                with self.assertRaises(InvalidNumber) as caught:
                    table ** value
                self.assertEqual(caught.exception.value, value)
            self.assertEqual(table.entries(), values)


class Rules(Case):
    def test_terms_and_tables_go_together(self):
        """The table of a term that is made by signs is made by the same signs of the tables of its parts."""
        for seed in range(30):
            one, other = term_oracle.model_of(seed, 3), term_oracle.model_of(seed + 100, 3)
            names = ["x", "y"]
            fillings = {name: names[place % 2] for place, name in enumerate(term_oracle.NAMES)}
            left, right = [term_oracle.made(term_oracle.filled(model, fillings)) for model in (one, other)]
            for power in (3, 4, 8):
                theory = Theory(power)
                a, b = Table.of(theory, names, left), Table.of(theory, names, right)
                self.assertEqual([a + b, a - b, a * b, -a, a ** 3, 2 - a], [Table.of(theory, names, term) for term in (
                    left + right, left - right, left * right, -left, left ** 3, 2 - left)])
                self.assertEqual(~a, Table.of(theory, names, Term.where(left, 0, 1, 0)))


if __name__ == "__main__":
    unittest.main()
