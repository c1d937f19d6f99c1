import itertools
import random
import unittest
from unittest import mock

from selfpower import tables
from selfpower.equations import Equation
from selfpower.errors import DuplicateName, InvalidElement, InvalidName, InvalidNumber, TooMany, UnknownName, Unlike
from selfpower.points import count_points
from selfpower.programs import Program
from selfpower.tables import Table, count_tables, tables_of
from selfpower.terms import Term
from selfpower.theories import Theory
from tests import run_oracle, table_oracle, term_oracle
from tests.checks import Case, NO_NAMES, NONE, NEAR, ODD, OVER
from tests.oracle import NO_NUMBERS
from tests.run_oracle import Maker
from tests.table_oracle import SHAPES

X, Y = Term.of("x"), Term.of("y")

# The field of 32 elements alone has more than 6000 points for 3 names, that of 64 for 4 names.
LARGE = Theory(32)


class Example(unittest.TestCase):
    def test_the_example_of_the_document(self):
        four, x = Theory(4), Term.of("x")
        table = Table.of(four, ["x"], x * x + 1)
        self.assertEqual(
            [table.entries(), table.rank, (~table).zeros(), table.lookup(4, (3,)), count_tables(four, 1)],
            [[1, 0, 2], 9, [(2, (0,)), (4, (2,))], 3, 16])


class Interface(Case):
    def test_parameters(self):
        self.has_methods(Table, {
            "__init__": "(self, theory, names, values)", "entries": "(self)", "zeros": "(self)", "lookup": "(self, size, row)",
            "copied": "(self)", "put": "(self, point, value)", "raised": "(self, exponent)", "of": "(theory, names, term)",
            "ranked": "(theory, names, rank)",
        })
        for name in ("eq", "repr", "len", "getitem", "setitem", "contains", "add", "radd", "iadd", "sub", "rsub", "isub",
                     "mul", "rmul", "imul", "neg", "invert", "pow"):
            self.assertIn("__" + name + "__", vars(Table))
        for name in ("theory", "variables", "rank"):
            self.assertIsInstance(vars(Table)[name], property)
        for name in ("of", "ranked"):
            self.assertIsInstance(vars(Table)[name], staticmethod)
        for thing in (Table, count_tables, tables_of):
            self.assertEqual(thing.__module__, tables.__name__)

    def test_calls_by_name(self):
        theory = Theory(4)
        table = Table(values=[1, 0, 3], names=["x"], theory=theory)
        self.assertEqual(table, Table(theory, ["x"], [1, 0, 3]))
        self.assertEqual(Table.of(term=X, names=["x"], theory=theory).entries(), [0, 1, 2])
        self.assertEqual(Table.ranked(rank=5, names=["x"], theory=theory).rank, 5)
        self.assertEqual(table.lookup(row=(2,), size=4), 3)
        self.assertEqual(table.raised(exponent=2).entries(), [1, 0, 2])
        table.put(value=2, point=(4, (2,)))
        self.assertEqual(table.entries(), [1, 0, 2])
        self.assertEqual(count_tables(many=1, theory=theory), 16)
        self.assertEqual(tables_of(program=Program("p", [], [], [1]), theory=theory), [Table(theory, [], [1])])


class Made(Case):
    def test_what_it_tells(self):
        for power, many in SHAPES:
            theory, names = Theory(power), ["x", "y", "abcdefgh", "b"][:many]
            points = table_oracle.points(power, many)
            values = [(7 * place + 3) % size for place, (size, _) in enumerate(points)]
            for passed, row in ((names, values), (tuple(names), tuple(values))):
                table = Table(theory, passed, row)
                self.assertEqual([table.theory, table.variables, table.entries(), len(table)],
                                 [theory, tuple(names), values, len(points)])
                self.assertEqual(table.zeros(), [point for point, value in zip(points, values) if value == 0])
                self.assertEqual([type(table.variables), type(table.entries()), type(table.zeros()), type(len(table))],
                                 [tuple, list, list, int])

    def test_reprs(self):
        for theory, names, text in (
                (Theory(4), ["x", "y"], "Table(x, y: 10 points)"), (Theory(3), ["x", "y"], "Table(x, y: 13 points)"),
                (Theory(3), [], "Table(-: 2 points)"), (Theory(2), [], "Table(-: 1 points)"), (Theory(4), ["b"], "Table(b: 3 points)"),
                (NONE, ["x", "a"], "Table(x, a: 0 points)"), (NONE, [], "Table(-: 0 points)"),
                (Theory(2), ["a", "b", "c", "d"], "Table(a, b, c, d: 16 points)")):
            table = Table(theory, names, [0] * len(theory.points(len(names))))
            self.assertEqual([repr(table), str(table)], [text, text])

    def test_theories_without_sizes(self):
        for many in range(5):
            table = Table(NONE, list("abcd"[:many]), [])
            self.assertEqual([table.entries(), table.zeros(), table.rank, len(table)], [[], [], 0, 0])
            self.assertEqual(Table.of(NONE, list("abcd"[:many]), Term.of(5)), table)
            self.assertEqual(Table.ranked(NONE, list("abcd"[:many]), 0), table)
            self.assertEqual(count_tables(NONE, many), 1)
        self.assertEqual(tables_of(NONE, Program("p", ["x"], [], ["x", 1])), [Table(NONE, ["x"], [])] * 2)

    def test_walking_over_it(self):
        table = Table(Theory(4), ["x"], [1, 0, 3])
        for walk in (iter, list, tuple, sorted, set, enumerate, lambda one: [value for value in one], lambda one: zip(one, one),
                     lambda one: print(*one), sum, max):
            self.assertRaises(TypeError, walk, table)
        with self.assertRaises(TypeError):
            first, *rest = table

    def test_later_changes_have_no_effect(self):
        names, values = ["x"], [1, 0, 3]
        table = Table(Theory(4), names, values)
        names.append("y")
        values[0] = 0
        table.entries()[0] = 0
        table.entries().append(1)
        table.zeros().clear()
        self.assertEqual([table.variables, table.entries(), table.zeros(), len(table)],
                         [("x",), [1, 0, 3], [(2, (1,))], 3])

    def test_copies(self):
        table = Table(Theory(4), ["x"], [1, 0, 3])
        copy = table.copied()
        self.assertEqual(copy, table)
        self.assertIsNot(copy, table)
        copy[(2, (0,))] = 0
        self.assertEqual([copy.entries(), table.entries()], [[0, 0, 3], [1, 0, 3]])
        table.put((4, (2,)), 2)
        self.assertEqual([copy.entries(), table.entries()], [[0, 0, 3], [1, 0, 2]])
        table += 1
        self.assertEqual([copy.entries(), table.entries()], [[0, 0, 3], [0, 1, 3]])


class Equal(Case):
    def test_theories_names_and_values(self):
        theories = [Theory(4), Theory(4, [Equation(X, X)]), Theory(10), Theory(2), Theory(3), NONE, Theory(4, [Equation(0, 1)])]
        self.assertEqual(Theory(4).sizes, Theory(10, [Equation(3 * X * 0, 0), Equation(X ** 4, X)]).sizes)
        made = []
        for theory in theories + [Theory(10, [Equation(X ** 4, X)])]:
            for names in (["x"], ["y"], ["x", "y"], ["y", "x"], []):
                points = theory.points(len(names))
                for values in {tuple([0] * len(points)), tuple([0] * (len(points) - 1) + [1])[:len(points)]}:
                    made.append((theory.text(), tuple(names), values, Table(theory, names, values)))
        for one, other in itertools.product(made, made):
            self.assertIs(one[3] == other[3], one[:3] == other[:3])
            self.assertIs(one[3] != other[3], one[:3] != other[:3])

    def test_equals_nothing_of_another_kind(self):
        self.equals_nothing_of_another_kind(Table(Theory(2), [], [1]), [Theory(2), Term.of(1), (1,), [1]])


class Names(Case):
    """The names of tables, for all that make them."""

    def calls(self, theory):
        """All that make tables with names, with the rest of what they are passed right, then wrong."""
        return [(lambda names: Table(theory, names, [])), (lambda names: Table(theory, names, [None])),
                (lambda names: Table.of(theory, names, Term.of(1))), (lambda names: Table.of(theory, names, Term.of("no"))),
                (lambda names: Table.ranked(theory, names, 0)), (lambda names: Table.ranked(theory, names, None))]

    def test_wrong_names(self):
        for theory in (NONE, Theory(4), LARGE):
            for call in self.calls(theory):
                for value in NO_NAMES + ["where", "axiom", "if", X]:
                    self.refused(InvalidName, value, call, [value])
                    self.refused(InvalidName, value, call, ["x", value, None])
                    self.refused(InvalidName, value, call, ("x", "x", "y", "z", "a", value))
                    self.refused(InvalidName, value, call, [value, value])

    def test_names_that_occur_earlier(self):
        for theory in (NONE, Theory(4), LARGE):
            for call in self.calls(theory):
                self.refused(DuplicateName, "x", call, ["x", "x"])
                self.refused(DuplicateName, "b", call, ["a", "b", "c", "b", "a"])
                self.refused(DuplicateName, "a", call, ("a", "b", "c", "d", "e", "a"))

    def test_more_than_four(self):
        for theory in (NONE, Theory(2), LARGE):
            for call in self.calls(theory):
                self.refused(TooMany, 4, call, ["a", "b", "c", "d", "e"])
                self.refused(TooMany, 4, call, tuple("abcdefgh"))
        for theory in (NONE, Theory(2), Theory(3)):
            names = ["a", "b", "c", "d"]
            self.assertEqual(Table(theory, names, [0] * len(theory.points(4))).variables, tuple(names))

    def test_too_many_points(self):
        for theory, many in ((LARGE, 3), (LARGE, 4), (Theory(64), 3), (Theory(61), 4)):
            names = ["a", "b", "c", "d"][:many]
            for values in ([], [None], [0] * 6000):
                self.refused(TooMany, 6000, Table, theory, names, values)
            self.refused(TooMany, 6000, Table.of, theory, names, Term.of("a"))
            for rank in (0, -1, None, 10 ** 40):
                self.refused(TooMany, 6000, Table.ranked, theory, names, rank)
            self.refused(TooMany, 6000, count_tables, theory, many)
            self.refused(TooMany, 6000, tables_of, theory, Program("p", names, [], [1]))

    def test_as_many_points_as_may_be(self):
        # No theory has a number of points between these two.
        self.assertEqual([NEAR.sizes, OVER.sizes], [(2, 3, 4, 7, 9), (3, 5, 7, 9)])
        self.assertEqual([sum(count_points(size, 4) for size in theory.sizes) for theory in (NEAR, OVER)], [5858, 6347])
        names = ["a", "b", "c", "d"]
        table = Table(NEAR, names, [0] * 5858)
        self.assertEqual([len(table), len(table.zeros()), table.rank], [5858, 5858, 0])
        self.assertEqual(Table.of(NEAR, names, Term.of("a") - Term.of("a")), table)
        self.assertEqual(Table.ranked(NEAR, names, 0), table)
        self.assertEqual(tables_of(NEAR, Program("p", names, [], [0])), [table])
        self.assertGreater(count_tables(NEAR, 4), 2 ** 5858)
        self.refused(TooMany, 6000, Table, OVER, names, [0] * 6347)
        self.refused(TooMany, 6000, Table.of, OVER, names, Term.of(0))
        self.refused(TooMany, 6000, Table.ranked, OVER, names, 0)
        self.refused(TooMany, 6000, tables_of, OVER, Program("p", names, [], [0]))
        self.refused(TooMany, 6000, count_tables, OVER, 4)

    def test_one_point_more(self):
        # The number of points that may be is looked at by each of these, so it may be another one for this test.
        theory, program = Theory(4), Program("p", ["x", "y"], [], ["x"])
        calls = [lambda: Table(theory, ["x", "y"], [0] * 10), lambda: Table.of(theory, ["x", "y"], X),
                 lambda: Table.ranked(theory, ["x", "y"], 0), lambda: tables_of(theory, program), lambda: count_tables(theory, 2)]
        with mock.patch("selfpower.points.MOST_POINTS", 10):
            for call in calls:
                call()
        with mock.patch("selfpower.points.MOST_POINTS", 9):
            for call in calls:
                self.refused(TooMany, 9, call)


class Values(Case):
    def test_how_many(self):
        for theory, names in ((Theory(4), ["x"]), (Theory(4), []), (NONE, ["x"]), (Theory(3), ["x", "y"])):
            points = len(theory.points(len(names)))
            for many in range(points + 3):
                if many != points:
                    self.refused(InvalidNumber, many, Table, theory, names, [0] * many)
                    # The number goes ahead of wrong values.
                    self.refused(InvalidNumber, many, Table, theory, names, tuple([None] * many))

    def test_wrong_values(self):
        theory = Theory(7)
        points = theory.points(1)
        for place, (size, _) in enumerate(points):
            for value in NO_NUMBERS + [-1, size, size + 1, 64, 10 ** 30, X, theory]:
                values = [0] * len(points)
                values[place] = value
                self.refused(InvalidElement, value, Table, theory, ["x"], values)
                if place < len(points) - 1:
                    self.refused(InvalidElement, value, Table, theory, ["x"], tuple(values[:-1] + [None]))
            for value in range(size):
                values = [0] * len(points)
                values[place] = value
                self.assertEqual(Table(theory, ["x"], values).entries(), values)


class OfTerms(Case):
    def test_values_at_all_points(self):
        for seed in range(120):
            power, many = SHAPES[seed % len(SHAPES)]
            names = ["x", "z", "fact", "y"][:many]
            model = term_oracle.filled(term_oracle.model_of(seed, 4), {name: names[place % many] if many else place for place, name
                                                                       in enumerate(term_oracle.NAMES)})
            table = Table.of(Theory(power), names, term_oracle.made(model))
            self.assertEqual(table.entries(), table_oracle.column(model, power, names))
            self.assertEqual([table.theory, table.variables], [Theory(power), tuple(names)])

    def test_names_that_are_not_in_the_term(self):
        table = Table.of(Theory(4), ["a", "x", "b"], X + 1)
        self.assertEqual(table.entries(), [row[1] + 1 if row[1] % 2 == 0 else row[1] - 1 for _, row in Theory(4).points(3)])
        self.assertEqual(table.variables, ("a", "x", "b"))

    def test_unknown_names(self):
        term = Term.read("where(c, a, b, a)")
        for theory in (NONE, Theory(4), LARGE):
            for names, name in (([], "a"), (["a"], "b"), (["b", "a"], "c"), (["c", "d"], "a"), (("b", "c", "d", "e"), "a")):
                # An unknown name goes ahead of too many points.
                self.refused(UnknownName, name, Table.of, theory, names, term)
        self.assertEqual(Table.of(Theory(2), ["c", "b", "a"], term).variables, ("c", "b", "a"))


class Ranks(Case):
    def test_all_ranks(self):
        for power, many in ((4, 1), (2, 2), (3, 1), (2, 0), (3, 0), (7, 0)):
            theory, names = Theory(power), ["x", "y"][:many]
            choices = [range(size) for size, _ in table_oracle.points(power, many)]
            tables_seen = {}
            for values in itertools.product(*choices):
                table = Table(theory, names, list(values))
                self.assertEqual(table.rank, table_oracle.rank(values, power, many))
                self.assertEqual(Table.ranked(theory, names, table.rank), table)
                tables_seen[table.rank] = values
            self.assertEqual(sorted(tables_seen), list(range(count_tables(theory, many))))

    def test_large_ranks(self):
        chance = random.Random(1)
        for power, many in SHAPES:
            theory, names = Theory(power), ["x", "y", "z", "a"][:many]
            sizes = [size for size, _ in table_oracle.points(power, many)]
            count = 1
            for size in sizes:
                count *= size
            self.assertEqual(count_tables(theory, many), count)
            for rank in [0, 1, count - 1, count // 2] + [chance.randrange(count) for _ in range(3)]:
                rank = min(rank, count - 1)
                table = Table.ranked(theory, tuple(names), rank)
                self.assertEqual([table.rank, table_oracle.rank(table.entries(), power, many)], [rank, rank])
                self.assertIs(type(table.rank), int)
            self.assertEqual(Table.ranked(theory, names, count - 1).entries(), [size - 1 for size in sizes])
            self.assertEqual(Table.ranked(theory, names, 0).entries(), [0] * len(sizes))

    def test_the_rank_follows_the_values(self):
        table = Table(Theory(4), ["x"], [0, 0, 0])
        table.put((4, (2,)), 3)
        self.assertEqual(table.rank, 12)
        table += 1
        self.assertEqual(table.rank, 1 + 2 + 4 * 2)

    def test_ranks_of_no_table(self):
        for theory, names in ((Theory(4), ["x"]), (Theory(3), []), (NONE, ["x"]), (Theory(64), ["x"]), (Theory(9), ["x", "y"])):
            count = count_tables(theory, len(names))
            for value in NO_NUMBERS + [-1, count, count + 1, -count, count * 64, X, theory]:
                self.refused(InvalidNumber, value, Table.ranked, theory, names, value)

    def test_ranks_too_long_to_be_shown(self):
        theory, names = Theory(61), ["x", "y"]
        count = count_tables(theory, 2)
        self.assertEqual(Table.ranked(theory, names, count - 1).rank, count - 1)
        for value in (count, -count, count * count):
            with self.assertRaises(InvalidNumber) as caught:
                Table.ranked(theory, names, value)
            self.assertEqual(caught.exception.value, value)

    def test_counts(self):
        self.assertEqual([count_tables(Theory(2), many) for many in range(4)], [2, 4, 16, 256])
        self.assertEqual([count_tables(Theory(3), 0), count_tables(Theory(3), 1)], [6, 108])
        self.assertEqual(count_tables(Theory(4), 2), 2 ** 4 * 4 ** 6)
        self.assertEqual(count_tables(ODD, 1), 3 ** 3 * 7 ** 7)
        # 5 names have no table, but points.
        self.assertEqual(count_tables(Theory(2), 5), 2 ** 32)
        self.refused(TooMany, 6000, count_tables, Theory(2), 13)
        self.assertEqual(count_tables(Theory(2), 12), 2 ** 4096)


class OfPrograms(Case):
    def test_values_at_all_points(self):
        for seed in range(80):
            maker = Maker(seed)
            power, many = [(4, 1), (3, 2), (4, 2), (7, 1), (8, 1), (9, 1), (2, 4), (16, 1), (5, 0), (25, 1)][seed % 10]
            outputs = 1 + seed % 6
            program = maker.flat("f", many, outputs)
            found = tables_of(Theory(power), program)
            self.assertIs(type(found), list)
            self.assertEqual([(table.theory, table.variables) for table in found],
                             [(Theory(power), tuple(program.inputs()))] * outputs)
            expected = [run_oracle.run(program, *run_oracle.world_row([point], many))[1]
                        for point in table_oracle.points(power, many)]
            self.assertEqual([table.entries() for table in found],
                             [[row[place][0] for row in expected] for place in range(outputs)])

    def test_calls_of_flat_programs(self):
        inner = Program("inner", ["x", "y"], [("repeat", 10 ** 30, [("set", "x", X * Y + 1)])], ["x", Y + 1])
        program = Program("p", ["y", "x"], [("call", ["x", "z"], inner, ["y", "x"]), ("call", ["y", "x"], inner, ["x", "z"])],
                          ["x", "y", "z"])
        expected = [run_oracle.run(program, *run_oracle.world_row([point], 2))[1] for point in table_oracle.points(7, 2)]
        self.assertEqual([table.entries() for table in tables_of(Theory(7), program)],
                         [[row[place][0] for row in expected] for place in range(3)])

    def test_programs_that_are_not_flat(self):
        asks = Program("asks", ["x"], [("test", "x", 0, [], [])], ["x"])
        calls = Program("calls", ["x"], [("call", ["x"], asks, ["x"])], ["x"])
        for program in (asks, calls, Program("large", ["x", "y", "z"], [("test", 1, 1, [], [])], ["x"])):
            for theory in (NONE, Theory(4), LARGE):
                with self.assertRaises(Unlike) as caught:
                    tables_of(theory, program)
                self.assertEqual(caught.exception.code, "Unlike")


if __name__ == "__main__":
    unittest.main()
