"""Theories with different powers and the same sizes tell the same."""

import itertools
import unittest

from selfpower.comparing import compare
from selfpower.deriving import any_follows, follows
from selfpower.equations import Equation
from selfpower.solving import solutions, solve
from selfpower.tables import Table, count_tables, tables_of
from selfpower.terms import Term
from selfpower.theories import Theory
from selfpower.ways import ways
from selfpower.writing import term_of
from tests.run_oracle import Maker
from tests.test_deriving import equations_by

X = Term.of("x")

# Pairs of theories that have the same sizes, with other powers or with axioms.
ALIKE = [(one, other) for one, other in itertools.combinations([Theory(power) for power in range(2, 65)], 2)
         if one.sizes == other.sizes and len(one.sizes) < 4 and one.sizes[-1] < 20][::12] + [
             (Theory(4), Theory(64, [Equation(X ** 4, X)])), (Theory(3), Theory(61, [Equation(X ** 3, X)])),
             (Theory(7, [Equation(0, 1)]), Theory(4, [Equation(X, 0)]))]


def way_of(way):
    return way.answers, way.world.sizes, way.row, way.many


class Alike(unittest.TestCase):
    def test_there_are_such_theories(self):
        self.assertGreater(len(ALIKE), 10)
        for one, other in ALIKE:
            self.assertEqual(one.sizes, other.sizes)
            self.assertNotEqual(one, other)

    def test_programs(self):
        for place, (one, other) in enumerate(ALIKE):
            for seed in range(6):
                maker = Maker(100 * place + seed)
                first, second = [maker.program(name, 1 + seed % 2, 1, 4) for name in ("p", "q")]
                self.assertEqual([way_of(way) for way in ways(one, first)], [way_of(way) for way in ways(other, first)])
                for program in (first, second):
                    left, right = compare(one, first, program), compare(other, first, program)
                    self.assertEqual(left.KIND, right.KIND)
                    if left:
                        self.assertEqual(left.pairs, right.pairs)
                    self.assertEqual([left.holds(other, first, program), right.holds(one, first, program)], [True, True])
                flat = maker.flat("f", 2, 2)
                self.assertEqual([table.entries() for table in tables_of(one, flat)],
                                 [table.entries() for table in tables_of(other, flat)])

    def test_equations(self):
        for place, (one, other) in enumerate(ALIKE):
            for seed in range(8):
                *facts, goal, last = equations_by(100 * place + seed, 2 + seed % 3, ["x", "y"])
                left, right = follows(one, facts, goal), follows(other, facts, goal)
                self.assertEqual(left.KIND, right.KIND)
                if left:
                    self.assertEqual([factor.entries() for factor in left.factors()], [factor.entries() for factor in right.factors()])
                    # A derivation has tables of its theory, so it is one for this theory only.
                    self.assertEqual([left.holds(one, facts, goal), left.holds(other, facts, goal)], [True, not facts])
                else:
                    self.assertEqual([left.holds(other, facts, goal), right.holds(one, facts, goal)], [True, True])
                self.assertEqual(any_follows(one, facts, goal, last)[0], any_follows(other, facts, goal, last)[0])

    def test_solutions(self):
        for place, (one, other) in enumerate(ALIKE):
            for seed in range(4):
                facts = equations_by(100 * place + seed, 1, ["x", "y"])
                left, right = solve(one, facts, ["x"], ["y"]), solve(other, facts, ["x"], ["y"])
                self.assertEqual(left.KIND, right.KIND)
                if not left:
                    self.assertEqual([left.condition.entries(), left.point], [right.condition.entries(), right.point])
                for size in one.sizes:
                    self.assertEqual(solutions(one, facts, ["x"], ["y"], size, (size - 1,)),
                                     solutions(other, facts, ["x"], ["y"], size, (size - 1,)))

    def test_tables(self):
        for one, other in ALIKE:
            count = count_tables(one, 1)
            self.assertEqual(count_tables(other, 1), count)
            rank = count * 2 // 3
            left, right = Table.ranked(one, ["x"], rank), Table.ranked(other, ["x"], rank)
            self.assertEqual(left.entries(), right.entries())
            self.assertNotEqual(left, right)
            if len(left) <= 100:
                self.assertEqual(Table.of(other, ["x"], term_of(left)), right)


if __name__ == "__main__":
    unittest.main()
