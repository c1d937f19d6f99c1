import itertools
import random
import unittest

from selfpower import writing
from selfpower.equations import Equation
from selfpower.errors import TooMany
from selfpower.fields import field_sizes
from selfpower.tables import Table, count_tables
from selfpower.terms import Term
from selfpower.theories import Theory
from selfpower.worlds import World
from selfpower.writing import MOST_WRITTEN, term_of
from tests import oracle, table_oracle
from tests.checks import Case, NONE, ODD

# Powers and numbers of names of which tables have at most 100 points.
WRITTEN = [(2, 0), (2, 1), (2, 2), (2, 4), (3, 0), (3, 1), (3, 2), (3, 4), (4, 1), (4, 2), (4, 3), (5, 1), (5, 2), (7, 1), (7, 2),
           (8, 1), (8, 2), (9, 1), (9, 2), (16, 1), (16, 2), (17, 1), (25, 1), (27, 1), (32, 1), (49, 1), (53, 1), (59, 1),
           (61, 0), (64, 0), (64, 1)]


class Interface(Case):
    def test_what_there_is(self):
        self.assertEqual([MOST_WRITTEN, term_of.__module__], [100, writing.__name__])
        self.assertIs(type(term_of(table=Table(Theory(2), [], [1]))), Term)


class Written(Case):
    def written(self, table):
        """The term has this table, names of the table, and the value of the table at all rows that are tried."""
        term = term_of(table)
        self.assertEqual(Table.of(table.theory, table.variables, term), table)
        self.assertLessEqual(set(term.names()), set(table.variables))
        self.assertLessEqual(term.depth(), 60)
        self.assertEqual(Term.read(term.text()), term)
        return term

    def test_all_tables(self):
        for power, many in ((2, 0), (2, 1), (2, 2), (3, 0), (3, 1), (4, 1), (5, 0)):
            for rank in range(count_tables(Theory(power), many)):
                self.written(Table.ranked(Theory(power), ["x", "y"][:many], rank))

    def test_tables_by_chance(self):
        chance = random.Random(3)
        for power, many in WRITTEN:
            theory = Theory(power)
            count = count_tables(theory, many)
            for rank in [0, 1 % count, count - 1] + [chance.randrange(count) for _ in range(4)]:
                self.written(Table.ranked(theory, ["b", "a", "long", "z"][:many], rank))

    def test_values_at_rows(self):
        chance = random.Random(4)
        for power, many in WRITTEN:
            names = ["y", "x", "a", "b"][:many]
            table = Table.ranked(Theory(power), names, chance.randrange(count_tables(Theory(power), many)))
            term = term_of(table)
            for size in field_sizes(power):
                field = table.theory.field(size)
                for _ in range(15):
                    row = tuple(chance.randrange(size) for _ in names)
                    self.assertEqual(term.evaluate(field, dict(zip(names, row))),
                                     table_oracle.value_at(table.entries(), power, many, size, row))

    def test_values_in_worlds(self):
        chance = random.Random(5)
        for power, many in ((4, 2), (16, 1), (27, 1), (7, 1), (9, 2), (3, 4)):
            names = ["x", "y", "a", "b"][:many]
            table = Table.ranked(Theory(power), names, chance.randrange(count_tables(Theory(power), many)))
            term = term_of(table)
            for _ in range(20):
                sizes = [chance.choice(field_sizes(power)) for _ in range(chance.randrange(1, 17))]
                given = {name: tuple(chance.randrange(size) for size in sizes) for name in names}
                expected = tuple(table.lookup(size, tuple(given[name][place] for name in names)) for place, size in enumerate(sizes))
                self.assertEqual(World(*sizes).evaluate(term, given), expected)

    def test_each_point_alone(self):
        for power, many in ((16, 1), (27, 1), (64, 1), (4, 2), (9, 2), (16, 2), (25, 1), (7, 1)):
            theory, names = Theory(power), ["x", "y"][:many]
            points = theory.points(many)
            for place in range(0, len(points), 1 + len(points) // 25):
                values = [0] * len(points)
                for value in {1, points[place][0] - 1, points[place][0] // 2}:
                    values[place] = value
                    self.written(Table(theory, names, values))

    def test_with_axioms(self):
        for theory, names in ((ODD, ["x"]), (ODD, ["x", "y"]), (Theory(61, [Equation.read("(x ** 7) = x")]), ["x", "y"]),
                              (Theory(64, [Equation.read("(x ** 8) = x")]), ["x", "y"])):
            for seed in range(4):
                chance = random.Random(seed)
                self.written(Table(theory, names, [chance.randrange(size) for size, _ in theory.points(len(names))]))

    def test_theories_without_sizes(self):
        for names in ([], ["x"], ["a", "b", "c", "d"]):
            self.written(Table(NONE, names, []))

    def test_equal_tables_have_equal_terms(self):
        for power, many in ((4, 2), (7, 1)):
            table = Table.ranked(Theory(power), ["x", "y"][:many], 12345 % count_tables(Theory(power), many))
            self.assertEqual(term_of(table), term_of(table.copied()))

    def test_the_table_is_not_changed(self):
        table = Table(Theory(4), ["x"], [1, 0, 3])
        term = term_of(table)
        table.put((2, (1,)), 1)
        self.assertEqual([table.entries(), Table.of(Theory(4), ["x"], term).entries()], [[1, 1, 3], [1, 0, 3]])


class TooLong(Case):
    def test_100_points_and_101(self):
        # With these sizes there are exactly so many points for one name.
        for sizes, many in (((3, 5, 31, 61), 100), ((2, 4, 5, 31, 61), 100), ((2, 7, 31, 61), 101), ((2, 3, 4, 16, 31, 61), 101)):
            theory = theory_with(61, sizes)
            self.assertEqual(theory.sizes, sizes)
            values = [(5 * place + 1) % size for place, (size, _) in enumerate(theory.points(1))]
            table = Table(theory, ["x"], values)
            self.assertEqual(len(table), many)
            if many == 101:
                self.refused(TooMany, 100, term_of, table)
            else:
                self.assertEqual(Table.of(theory, ["x"], term_of(table)), table)

    def test_many_points(self):
        for theory, names in ((Theory(61), ["x"]), (Theory(61), ["x", "y"]), (Theory(16), ["x", "y", "z"]), (Theory(4), list("abcd"))):
            points = theory.points(len(names))
            for values in ([0] * len(points), [1] * len(points)):
                self.refused(TooMany, 100, term_of, Table(theory, names, values))


def theory_with(power, sizes):
    """A theory with just these sizes."""
    axioms = []
    for size in field_sizes(power):
        if size not in sizes:
            prime = oracle.FIELDS[size][0]
            # The greatest size below it of this prime that stays, if there is one.
            below = [small for small in sizes if oracle.FIELDS[small][0] == prime and small < size]
            x = Term.of("x")
            axioms.append(Equation(Term.where(prime, 0, x ** max(below) if below else 0, x), x))
    return Theory(power, axioms)


if __name__ == "__main__":
    unittest.main()
