"""Theories without sizes, no names and no shown terms (points 8, 16 and 17): nothing is left that could be false."""

import unittest

from selfpower.comparing import compare
from selfpower.deriving import any_follows, follows
from selfpower.equations import Equation
from selfpower.errors import InvalidSize
from selfpower.middles import Between, middle
from selfpower.programs import Program
from selfpower.solving import solutions, solve
from selfpower.tables import Table, count_tables, tables_of
from selfpower.telling import least_sets, told_by
from selfpower.terms import Term
from selfpower.theories import Theory
from selfpower.ways import ways
from selfpower.worlds import World
from tests import oracle
from tests.checks import Case
from tests.run_oracle import Maker

X, Y = Term.of("x"), Term.of("y")

# Each axiom leaves no size of its power.
EMPTY = [Theory(7, [Equation(0, 1)]), Theory(2, [Equation(X, 0)]), Theory(61, [Equation(X + 1, X)]), Theory(64, [Equation(X ** 2, X), Equation(3, 0)]),
         Theory(3, [Equation(2, 0), Equation(3, 0)]), Theory(22, [Equation.read("where(2, 0, 1, 0) = 0")])]


class NothingLeft(Case):
    def test_no_sizes(self):
        for theory in EMPTY:
            self.assertEqual([theory.sizes, repr(theory)], [(), f"Theory({theory.power}: none)"])
            self.assertEqual([theory.points(many) for many in range(5)], [[]] * 5)
            for size in oracle.ALL_SIZES:
                self.refused(InvalidSize, size, theory.field, size)
                self.assertFalse(World(size).obeys(theory))
            for other in EMPTY + [Theory(2), Theory(64)]:
                self.assertTrue(theory.gives(other))
                self.assertEqual(other.gives(theory), other.sizes == ())

    def test_everything_follows(self):
        for theory in EMPTY:
            for facts, goal in (([], Equation(0, 1)), ([], Equation(X, Y)), ([Equation(X, X)], Equation(X, X + 1)), ([Equation(0, 1)], Equation(X, 0))):
                found = follows(theory, facts, goal)
                self.assertEqual([found.KIND, len(found.factors()), found.holds(theory, facts, goal)], ["derived", len(facts), True])
                index, answer = any_follows(theory, facts, goal, goal)
                self.assertEqual([index, answer.KIND], [0, "derived"])
                self.assertIs(type(middle(theory, facts, goal)), Between)

    def test_everything_is_told(self):
        for seed in range(60):
            theory, maker = EMPTY[seed % len(EMPTY)], Maker(seed)
            names = list("xyzu"[:seed % 5])
            shown = [maker.term(names) for _ in range(seed % 4)]
            report = told_by(theory, names, shown, maker.term(names))
            self.assertEqual([report.KIND, report.table.entries(), report.table.variables], ["told", [], tuple("abcd"[:len(shown)])])
            self.assertEqual(least_sets(theory, names, shown, maker.term(names)), [()])

    def test_programs_and_tables(self):
        asks = Program("asks", ["x"], [("test", "x", 0, [], [])], ["x"])
        for theory in EMPTY:
            found = compare(theory, asks, Program("other", ["y"], [], [1]))
            self.assertEqual([found.KIND, found.pairs, ways(theory, asks)], ["same", 0, []])
            table = Table.of(theory, ["x"], X)
            self.assertEqual([table.entries(), table.rank, len(table), table, table.zeros()], [[], 0, 0, Table.of(theory, ["x"], X + 1), []])
            self.assertEqual([count_tables(theory, 2), repr(table)], [1, "Table(x: 0 points)"])
            self.assertEqual(tables_of(theory, Program("p", [], [], [5]))[0].entries(), [])

    def test_everything_is_solved(self):
        for theory in EMPTY:
            for facts in ([], [Equation(X, Y)], [Equation(X, X + 1)], [Equation(0, 1)]):
                found = solve(theory, facts, ["y"], ["x"])
                self.assertEqual([found.KIND, found.answer()["x"].entries(), found.general()["x"].variables], ["solved", [], ("y", "x")])
                self.refused(InvalidSize, 2, solutions, theory, facts, ["y"], ["x"], 2, (0,))

    def test_no_names_at_all(self):
        seven = Theory(7)
        self.assertEqual(seven.points(0), [(2, ()), (3, ()), (7, ())])
        self.assertEqual(told_by(seven, [], [], Term.of(5)).table.entries(), [1, 2, 5])
        self.assertEqual(told_by(seven, [], [Term.of(1)], Term.of(5)).table.lookup(4, (1,)), 1)
        self.assertEqual(least_sets(seven, [], [Term.of(1)], Term.of(5)), [()])
        found = middle(seven, [Equation(2, 0)], Equation(4, 0))
        self.assertEqual([found.strongest.entries(), found.weakest.entries()], [[0, 1, 1], [0, 1, 1]])
        found = middle(seven, [Equation(2, 0)], Equation(6, 0))
        self.assertEqual([found.strongest.entries(), found.weakest.entries()], [[0, 1, 1], [0, 0, 1]])
        self.assertEqual(follows(seven, [Equation(2, 0)], Equation(3, 0)).given(), {})

    def test_no_shown_terms(self):
        for theory, wished, kind in ((Theory(2), X, "hidden"), (Theory(2), X + X, "told"), (Theory(3), X ** 3 - X + 5, "told"),
                                     (Theory(4), X ** 3, "hidden"), (Theory(7), Term.of(3), "told")):
            report = told_by(theory, ["x"], [], wished)
            self.assertEqual(report.KIND, kind)
            self.assertEqual(least_sets(theory, ["x"], [], wished), [()] if report else [])


if __name__ == "__main__":
    unittest.main()
