import itertools
import unittest

from selfpower.deriving import Broken, follows
from selfpower.equations import Equation
from selfpower.errors import TooMany
from selfpower.middles import Between, Gap, middle
from selfpower.tables import Table, count_tables
from selfpower.terms import Term
from selfpower.theories import Theory
from tests import tell_oracle
from tests.checks import NEAR, NONE, ODD, OVER, Case
from tests.run_oracle import Maker

X, Y, Z, U, V = [Term.of(name) for name in "xyzuv"]

FOUR = Theory(4)

# The sizes 2, 4 and 8, and no field has both others in it; with 64; and 64 taken out again.
APART = Theory(22)
TOGETHER = Theory(64)
TAKEN = Theory(64, [Equation((X ** 4 - X) * (X ** 8 - X), 0)])

# The facts hold for an element of 4 that 2 has not, and for any y; the goal fails for one of 8 that 2 has not.
CROSSING = [Equation(Term.where(X ** 4, X, Term.where(X ** 2, X, 1, 0), 1), 0)]
CROSSED = Equation(Term.where(Z ** 8, Z, Term.where(Z ** 2, Z, 0, 1), 0), 0)

# With one name, the theories of 4 and 8 elements have so many tables.
MOST_TABLES = 1024

SMALL = [Theory(2), Theory(3), FOUR, Theory(5), APART, TAKEN, ODD, Theory(8)]


def tables(theory, names):
    """All tables, which must be few."""
    return [Table.ranked(theory, names, rank) for rank in range(count_tables(theory, len(names)))]


def drawn(seed):
    """A theory, facts and a goal by chance, with at most one shared name."""
    theory = SMALL[seed % len(SMALL)]
    maker = Maker(seed)
    known, wanted = [(["x", "y"], ["x", "z"]), (["x"], ["x"]), (["y"], ["x"]), (["x", "y"], ["x"])][seed // 8 % 4]
    facts = [Equation(maker.term(known), maker.term(known)) for _ in range(maker.chance.randrange(3))]
    return theory, facts, Equation(maker.term(wanted), maker.term(wanted, 2))


class Middles(Case):
    def judge(self, theory, facts, goal, by_all=True):
        """What middle returns is right; returns the name of its class."""
        found = middle(theory, facts, goal)
        if isinstance(found, Broken):
            self.assertFalse(follows(theory, facts, goal))
            self.assertIs(True, found.holds(theory, facts, goal))
            return "Broken"
        self.assertTrue(follows(theory, facts, goal))
        known = sorted({name for fact in facts for name in fact.names()})
        shared = [name for name in known if name in goal.names()]
        if isinstance(found, Gap):
            self.judge_gap(theory, facts, goal, found, known, shared)
            if by_all and count_tables(theory, len(shared)) <= MOST_TABLES:
                middles = [table for table in tables(theory, shared) if tell_oracle.is_middle(theory.sizes, facts, goal, table)]
                self.assertEqual(middles, [])
            return "Gap"
        self.assertEqual(repr(found), f"Between({len(shared)} names)")
        for table in (found.strongest, found.weakest):
            self.assertEqual([table.theory, list(table.variables)], [theory, shared])
            self.assertLessEqual(set(table.entries()), {0, 1})
            self.assertTrue(tell_oracle.is_middle(theory.sizes, facts, goal, table))
        if by_all and count_tables(theory, len(shared)) <= MOST_TABLES:
            self.judge_all(theory, facts, goal, found, shared)
        return "Between"

    def judge_all(self, theory, facts, goal, found, shared):
        zeros = [set(table.zeros()) for table in tables(theory, shared)
                 if tell_oracle.is_middle(theory.sizes, facts, goal, table)]
        strong, weak = set(found.strongest.zeros()), set(found.weakest.zeros())
        self.assertEqual([len(strong), len(weak)], [min(map(len, zeros)), max(map(len, zeros))])
        self.assertTrue(all(strong <= places <= weak for places in zeros))

    def judge_gap(self, theory, facts, goal, gap, known, shared):
        (size, row), (other, items) = gap.first, gap.second
        self.assertEqual([type(gap.first), type(row), type(gap.second), type(items)], [tuple] * 4)
        self.assertEqual(repr(gap), f"Gap({size}, {other})")
        self.assertEqual(tell_oracle.greats(theory.sizes, size, other), [])
        self.assertTrue(size in theory.sizes and other in theory.sizes)
        given, wanted = dict(zip(known, row)), dict(zip(goal.names(), items))
        self.assertEqual([len(row), len(items)], [len(known), len(goal.names())])
        self.assertIs(True, all(fact.holds(theory.field(size), given) for fact in facts))
        self.assertIs(False, goal.holds(theory.field(other), wanted))
        self.assertEqual(tell_oracle.point(size, [given[name] for name in shared]),
                         tell_oracle.point(other, [wanted[name] for name in shared]))


class Middles61(Middles):
    def test_all_tables(self):
        found = [self.judge(*drawn(seed), by_all=seed % 9 == 0) for seed in range(400)]
        self.assertGreater(found.count("Broken"), 30)
        self.assertGreater(found.count("Between"), 30)

    def test_by_hand(self):
        found = middle(Theory(3), [Equation(X * Y, 1)], Equation(X * X, Z ** 0))
        self.assertEqual([found.strongest.variables, found.strongest.zeros(), found.weakest.zeros()],
                         [("x",), [(2, (1,)), (3, (1,)), (3, (2,))], [(2, (1,)), (3, (1,)), (3, (2,))]])
        found = middle(Theory(3), [Equation(X, 1), Equation(Y, 1)], Equation(X * X, 1))
        self.assertEqual([found.strongest.zeros(), found.weakest.zeros()],
                         [[(2, (1,)), (3, (1,))], [(2, (1,)), (3, (1,)), (3, (2,))]])
        self.assertEqual(found.strongest.entries(), [1, 0, 1, 0, 1])
        found = middle(Theory(5), [Equation(X, Y)], Equation(Y + Z, X + Z))
        self.assertEqual([found.strongest, found.weakest], [found.weakest, found.strongest])
        self.assertEqual([found.strongest.variables, set(found.strongest.zeros())],
                         [("x", "y"), {place for place in Theory(5).points(2) if place[1][0] == place[1][1]}])

    def test_no_facts_and_goals_that_hold_nowhere(self):
        found = middle(FOUR, [], Equation(X ** 4, X))
        self.assertEqual([found.strongest.variables, found.strongest.entries(), found.weakest.entries()], [(), [0], [0]])
        found = middle(FOUR, [Equation(0, 1)], Equation(2, 1))
        self.assertEqual([found.strongest.entries(), found.weakest.entries()], [[1], [1]])
        found = middle(FOUR, [Equation(X, X + 1)], Equation(X, Y))
        self.assertEqual([found.strongest.entries(), found.weakest.entries()], [[1, 1, 1], [1, 1, 1]])
        found = middle(FOUR, [Equation(X, X + 1)], Equation(X, X))
        self.assertEqual([found.strongest.entries(), found.weakest.entries()], [[1, 1, 1], [0, 0, 0]])
        found = middle(Theory(7), [], Equation(X ** 7, X))
        self.assertEqual([found.strongest.entries(), found.weakest.entries(), repr(found)], [[0] * 3, [0] * 3, "Between(0 names)"])

    def test_four_names(self):
        for theory in (Theory(2), Theory(3)):
            facts = [Equation(X, Y), Equation(Y, Z)]
            self.assertEqual(self.judge(theory, facts, Equation(X + U, Z + U), by_all=False), "Between")
            self.assertEqual(middle(theory, facts, Equation(X + U, Z + U)).weakest.variables, ("x", "z"))
            self.assertEqual(self.judge(theory, facts, Equation(X, U), by_all=False), "Broken")
        found = middle(Theory(2), [Equation(X + Y + Z + U, 1), Equation(X * Y * Z * U, 1)], Equation(X + Y + Z, U))
        self.assertEqual([len(found.strongest.zeros()), len(found.weakest.zeros()), repr(found)], [0, 8, "Between(4 names)"])

    def test_what_does_not_follow(self):
        for theory, facts, goal in ((FOUR, [Equation(X ** 3, 1)], Equation(X, 1)), (Theory(2), [], Equation(X, 0)),
                                    (Theory(7), [Equation(X, Y)], Equation(Y, Z)), (APART, [Equation(X ** 4, X)], Equation(X, 1))):
            found, expected = middle(theory, facts, goal), follows(theory, facts, goal)
            self.assertEqual([type(found), found.world, found.given()], [Broken, expected.world, expected.given()])
            self.assertIs(True, found.holds(theory, facts, goal))

    def test_made_by_callers(self):
        table = Table.of(FOUR, ["x", "y"], X + Y)
        between = Between(table, weakest=table)
        table.put((2, (0, 0)), 1)
        between.strongest.put((2, (0, 0)), 1)
        between.weakest[(2, (0, 0))] = 1
        expected = Table.of(FOUR, ["x", "y"], X + Y)
        self.assertEqual([between.strongest, between.weakest, repr(between)], [expected, expected, "Between(2 names)"])
        gap = Gap(first=(4, (2,)), second=(8, (2, 3)))
        self.assertEqual([gap.first, gap.second, repr(gap)], [(4, (2,)), (8, (2, 3)), "Gap(4, 8)"])
        self.has_methods(Between, {"__init__": "(self, strongest, weakest)"})
        self.has_methods(Gap, {"__init__": "(self, first, second)"})
        for thing in (between, gap):
            self.equals_nothing_of_another_kind(thing, [FOUR, table])

    def test_nothing_passed_is_changed(self):
        facts = [Equation(X, Y), Equation(Y, Z)]
        found = middle(theory=FOUR, facts=facts, goal=Equation(X, Z))
        self.assertEqual(facts, [Equation(X, Y), Equation(Y, Z)])
        self.assertEqual(middle(FOUR, tuple(facts), Equation(X, Z)).weakest, found.weakest)
        before = found.strongest
        facts.clear()
        found.strongest.put((2, (0, 0)), 1)
        self.assertEqual(found.strongest, before)

    def test_refused(self):
        five = [Equation(X + Y + Z, U)]
        self.refused(TooMany, 4, middle, FOUR, five, Equation(V, V))
        # Four names in all are enough to count, also where facts and goal share none.
        self.refused(TooMany, 4, middle, OVER, five, Equation(V, V))
        self.refused(TooMany, 6000, middle, OVER, five, Equation(X, X))
        self.refused(TooMany, 6000, middle, OVER, [Equation(X, Y)], Equation(Z, U))
        self.assertIs(type(middle(NEAR, [Equation(X + Y, 0), Equation(Y + Z, 0)], Equation(X + U, Z + U))), Between)


class Gaps62(Middles):
    def test_fields_apart(self):
        for theory in (APART, TAKEN):
            found = middle(theory, CROSSING, CROSSED)
            self.assertEqual([type(found), found.first[0], found.second[0]], [Gap, 4, 8])
            self.assertEqual(self.judge(theory, CROSSING, CROSSED), "Gap")
            turned = [Equation(Term.where(X ** 8, X, Term.where(X ** 2, X, 1, 0), 1), 0)]
            wanted = Equation(Term.where(Z ** 4, Z, Term.where(Z ** 2, Z, 0, 1), 0), 0)
            self.assertEqual(self.judge(theory, turned, wanted), "Gap")

    def test_fields_together_and_one_alone(self):
        # With 64 elements there are both elements at once, so the goal does not follow.
        self.assertEqual(self.judge(TOGETHER, CROSSING, CROSSED), "Broken")
        self.assertEqual(self.judge(FOUR, CROSSING, CROSSED), "Between")
        self.assertEqual(self.judge(Theory(8), CROSSING, CROSSED), "Between")
        found = middle(FOUR, CROSSING, CROSSED)
        self.assertEqual([found.strongest.entries(), found.weakest.entries()], [[0], [0]])
        found = middle(Theory(8), CROSSING, CROSSED)
        self.assertEqual([found.strongest.entries(), found.weakest.entries()], [[1], [1]])

    def test_with_shared_names(self):
        # The shared name y is 1 where the facts hold and where the goal fails; at 0 there is no gap.
        facts = CROSSING + [Equation(Y * X ** 3, 1)]
        goal = Equation(CROSSED.one * Term.where(Y, 1, 1, 0), 0)
        found = middle(APART, facts, goal)
        self.assertEqual([type(found), found.first[0], found.first[1][1], found.second[0], found.second[1][0]], [Gap, 4, 1, 8, 1])
        self.assertEqual(self.judge(APART, facts, goal, by_all=False), "Gap")
        goal = Equation(CROSSED.one * Term.where(Y, 0, 1, 0), 0)
        self.assertEqual(self.judge(APART, facts, goal, by_all=False), "Between")
        self.assertEqual(middle(APART, facts, goal).strongest.zeros(), [(2, (1,))])

    def test_drawn(self):
        found = []
        for seed in range(120):
            maker = Maker(seed)
            facts = [Equation(CROSSING[0].one, 0), Equation(maker.term(["x", "y"]), maker.term(["y"], 2))]
            goal = Equation(CROSSED.one * maker.term(["y", "z"]), 0)
            found.append(self.judge([APART, TAKEN, FOUR][seed % 3], facts, goal, by_all=seed % 12 == 0))
        for kind, least in (("Gap", 10), ("Between", 10)):
            self.assertGreater(found.count(kind), least)


class NothingLeft(Case):
    def test_theories_without_sizes(self):
        for facts, goal, shared in (([], Equation(0, 1), ()), ([Equation(X, Y)], Equation(X, 1), ("x",)),
                                    ([Equation(X, Y + Z)], Equation(Y * X, U), ("x", "y"))):
            found = middle(NONE, facts, goal)
            self.assertEqual([type(found), found.strongest.entries(), found.weakest.entries()], [Between, [], []])
            self.assertEqual([found.strongest.variables, found.weakest.variables], [shared, shared])

    def test_no_names(self):
        for theory in (Theory(7), FOUR):
            for facts, goal in itertools.product(([], [Equation(1, 1)], [Equation(3, 0)], [Equation(2, 0), Equation(1, 0)]),
                                                 (Equation(0, 0), Equation(6, 0), Equation(1, 0))):
                found = middle(theory, facts, goal)
                if isinstance(found, Broken):
                    self.assertEqual(found.given(), {})
                    self.assertIs(True, found.holds(theory, facts, goal))
                else:
                    holding = [all(fact.holds(theory.field(size), {}) for fact in facts) for size, _ in theory.points(0)]
                    failing = [not goal.holds(theory.field(size), {}) for size, _ in theory.points(0)]
                    self.assertEqual(found.strongest.entries(), [0 if flag else 1 for flag in holding])
                    self.assertEqual(found.weakest.entries(), [1 if flag else 0 for flag in failing])


if __name__ == "__main__":
    unittest.main()
