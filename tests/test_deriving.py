import itertools
import random
import unittest
from unittest import mock

from selfpower import deriving
from selfpower.deriving import Answer, Broken, Derived, any_follows, follows
from selfpower.equations import Equation
from selfpower.errors import InvalidNumber, TooMany
from selfpower.fields import Field
from selfpower.tables import Table
from selfpower.terms import Term
from selfpower.theories import Theory
from selfpower.worlds import World
from tests import term_oracle
from tests.checks import Case, NEAR, NONE, ODD, OVER
from tests.oracle import NO_NUMBERS

X, Y = Term.of("x"), Term.of("y")

READ = Equation.read

THEORIES = [Theory(2), Theory(3), Theory(4), Theory(5), Theory(7), Theory(8), Theory(9), ODD, NONE]

SQUARES = [READ("(x * x) = 1"), READ("(x * y) = 1")]


def names_of(equations):
    return sorted({name for equation in equations for name in equation.names()})


def all_given(theory, names):
    """All elements of all fields of a theory for these names: pairs of a field and a dict."""
    for size in theory.sizes:
        for row in itertools.product(range(size), repeat=len(names)):
            yield Field(size), dict(zip(names, row))


def really_follows(theory, facts, goal):
    names = names_of(facts + [goal])
    return all(goal.holds(field, given) for field, given in all_given(theory, names)
               if all(fact.holds(field, given) for fact in facts))


def is_derivation(derived, theory, facts, goal):
    """Whether the sum of the products is the difference of the goal, for all elements of all fields."""
    names = names_of(facts + [goal])
    factors = derived.factors()
    if len(factors) != len(facts):
        return False
    for field, given in all_given(theory, names):
        total = 0
        for factor, fact in zip(factors, facts):
            value = factor.lookup(field.size, tuple(given[name] for name in names))
            total = field.plus(total, field.times(value, difference(fact, field, given)))
        if total != difference(goal, field, given):
            return False
    return True


def difference(equation, field, given):
    return field.minus(equation.one.evaluate(field, given), equation.other.evaluate(field, given))


def breaks(broken, theory, facts, goals):
    """Whether the facts and none of the goals hold: computed field by field."""
    sizes, given = broken.world.sizes, broken.given()
    rows = [(Field(size), {name: value[place] for name, value in given.items()}) for place, size in enumerate(sizes)]
    facts_hold = all(fact.holds(field, row) for fact in facts for field, row in rows)
    goals_hold = [all(goal.holds(field, row) for field, row in rows) for goal in goals]
    return set(sizes) <= set(theory.sizes) and facts_hold and not any(goals_hold)


def equations_by(seed, many, names):
    """Equations by chance."""
    chance = random.Random(seed)
    found = []
    for _ in range(many):
        fillings = {name: chance.choice(names) for name in term_oracle.NAMES}
        models = [term_oracle.filled(term_oracle.model_of(chance.random(), chance.randrange(1, 4)), fillings) for _ in range(2)]
        found.append(Equation(*[term_oracle.made(model) for model in models]))
    return found


class Example(unittest.TestCase):
    def test_the_example_of_the_document(self):
        three = Theory(3)
        facts = [Equation.read("(x * x) = 1"), Equation.read("(x * y) = 1")]
        found = follows(three, facts, Equation.read("x = y"))
        self.assertEqual([found.KIND, found.holds(three, facts, Equation.read("x = y"))], ["derived", True])
        index, broken = any_follows(three, [], Equation.read("x = 0"), Equation.read("x = 1"))
        self.assertEqual([index, len(broken.world) <= 2, sorted(broken.given())], [None, True, ["x"]])


class Interface(Case):
    def test_what_there_is(self):
        self.has_methods(Derived, {"__init__": "(self, factors)", "factors": "(self)", "holds": "(self, theory, facts, goal)"})
        self.has_methods(Broken, {"__init__": "(self, world, given)", "given": "(self)", "holds": "(self, theory, facts, goal)"})
        for name in ("__bool__", "__repr__"):
            self.assertIn(name, vars(Answer))
        self.assertIsInstance(vars(Broken)["world"], property)
        self.assertEqual([Derived.KIND, Broken.KIND], ["derived", "broken"])
        for kind in (Derived, Broken):
            self.assertTrue(issubclass(kind, Answer))
        for thing in (Answer, Derived, Broken, follows, any_follows):
            self.assertEqual(thing.__module__, deriving.__name__)

    def test_what_they_tell(self):
        table = Table(Theory(4), ["x"], [1, 0, 3])
        derived, broken = Derived(factors=[table]), Broken(world=World(2, 4), given={"x": (1, 3)})
        self.assertEqual([derived.factors(), derived.KIND, repr(derived), bool(derived)],
                         [[table], "derived", "Answer(derived)", True])
        self.assertEqual([broken.world, broken.given(), broken.KIND, repr(broken), bool(broken)],
                         [World(2, 4), {"x": (1, 3)}, "broken", "Answer(broken)", False])

    def test_kinds(self):
        derived = follows(Theory(3), facts=SQUARES, goal=READ("x = y"))
        broken = follows(theory=Theory(4), facts=tuple(SQUARES), goal=READ("x = 0"))
        self.assertEqual([type(derived), type(broken), type(derived.factors()), type(derived.factors()[0]), type(broken.world),
                          type(broken.given()), type(broken.given()["x"])], [Derived, Broken, list, Table, World, dict, tuple])
        self.assertIs(type(any_follows(Theory(4), [], READ("0 = 0"))), tuple)

    def test_later_changes_have_no_effect(self):
        table = Table(Theory(4), ["x"], [1, 0, 3])
        factors, given = [table], {"x": (1, 3)}
        derived, broken = Derived(factors), Broken(World(2, 4), given)
        factors.append(table)
        table.put((2, (0,)), 0)
        table *= 0
        given["x"] = (0, 0)
        derived.factors()[0].put((2, (1,)), 1)
        derived.factors().append(table)
        broken.given()["x"] = (0, 0)
        broken.given().clear()
        self.assertEqual([[factor.entries() for factor in derived.factors()], broken.given()], [[[1, 0, 3]], {"x": (1, 3)}])


class Follows(Case):
    def check(self, theory, facts, goal):
        """The answer is right, and so is what it shows."""
        before = [fact.text() for fact in facts] + [goal.text()]
        found = follows(theory, facts, goal)
        self.assertEqual(found.KIND, "derived" if really_follows(theory, facts, goal) else "broken")
        self.assertIs(found.holds(theory, facts, goal), True)
        names = names_of(facts + [goal])
        if found:
            self.assertTrue(is_derivation(found, theory, facts, goal))
            self.assertEqual([(factor.theory, factor.variables) for factor in found.factors()], [(theory, tuple(names))] * len(facts))
        else:
            self.assertEqual([len(found.world), sorted(found.given())], [1, names])
            self.assertTrue(breaks(found, theory, facts, [goal]))
        self.assertEqual([fact.text() for fact in facts] + [goal.text()], before)
        return found.KIND

    def test_by_hand(self):
        for theory, facts, goal, kind in (
                (Theory(3), SQUARES, "x = y", "derived"), (Theory(4), SQUARES, "x = y", "derived"), (Theory(7), SQUARES, "x = y", "derived"),
                (Theory(4), SQUARES[1:], "x = y", "broken"), (Theory(4), [], "(x ** 4) = x", "derived"), (Theory(4), [], "(x ** 3) = x", "broken"),
                (Theory(7), [], "0 = 1", "broken"), (Theory(7), [READ("2 = 0"), READ("3 = 0")], "x = y", "derived"),
                (Theory(7), [READ("2 = 0")], "(x ** 4) = x", "derived"), (Theory(7), [READ("x = 0")], "y = 0", "broken"),
                (Theory(2), [READ("(x * y) = 1")], "x = 1", "derived"), (Theory(4), [READ("(x * x) = (y * y)")], "x = y", "derived"),
                (Theory(3), [READ("(x * x) = (y * y)")], "x = y", "broken"), (NONE, [], "0 = 1", "derived"),
                (NONE, [READ("x = a"), READ("b = c")], "0 = 1", "derived"), (ODD, [], "(x + x) = 0", "broken")):
            self.assertEqual(self.check(theory, facts, READ(goal)), kind)

    def test_without_facts(self):
        for theory in THEORIES:
            for text in ("0 = 0", "0 = 1", "2 = 0", "x = x", "(x ** 0) = 1", "x = y", "(x ** 7) = x", "((x + y) ** 2) = ((x ** 2) + (y ** 2))"):
                if self.check(theory, [], READ(text)) == "derived":
                    self.assertEqual(follows(theory, [], READ(text)).factors(), [])

    def test_facts_that_contradict_each_other(self):
        for theory in THEORIES:
            for facts in (["0 = 1"], ["x = 0", "x = 1"], ["x = y", "(x + 1) = y"], ["x = 0", "y = 1", "(x * a) = y"]):
                self.assertEqual(self.check(theory, [READ(text) for text in facts], READ("a = b")), "derived")

    def test_goals_that_hold_nowhere(self):
        for theory in THEORIES[:-1]:
            self.assertEqual(self.check(theory, [READ("x = y")], READ("(x + 1) = x")), "broken")

    def test_facts_that_are_the_goal(self):
        for theory in THEORIES:
            goal = READ("((x * y) + x) = 1")
            for facts in ([goal], [READ("x = 1"), goal], [goal, goal], [READ("1 = ((x * y) + x)")], [READ("(2 * y) = 0"), goal]):
                self.assertEqual(self.check(theory, facts, goal), "derived")

    def test_equations_by_chance(self):
        kinds = []
        for seed in range(200):
            theory = THEORIES[seed % len(THEORIES)]
            *facts, goal = equations_by(seed, 1 + seed % 4, ["x", "y"])
            kinds.append(self.check(theory, facts, goal))
        self.assertGreater(kinds.count("derived"), 30)
        self.assertGreater(kinds.count("broken"), 30)

    def test_four_names(self):
        goal = READ("((a * b) * (c * d)) = ((d * b) * (c * a))")
        self.assertEqual(self.check(Theory(3), [], goal), "derived")
        self.assertEqual(self.check(Theory(3), [READ("a = b"), READ("c = d")], READ("(a * c) = (b * d)")), "derived")
        self.assertEqual(self.check(Theory(2), [READ("(a + b) = (c + d)")], READ("a = d")), "broken")

    def test_many_facts(self):
        facts = [Equation(X ** exponent, X) for exponent in range(200)]
        self.assertEqual(self.check(Theory(4), facts, READ("(x * y) = y")), "derived")
        self.assertEqual(self.check(Theory(4), facts[1:], READ("(x * y) = y")), "broken")

    def test_names(self):
        self.assertEqual(follows(Theory(2), [READ("z = b")], READ("b = (a + z)")).given().keys(), {"a", "b", "z"})
        self.assertEqual(follows(Theory(2), [READ("z = b")], READ("z = b")).factors()[0].variables, ("b", "z"))

    def test_powers_that_are_large(self):
        for power in (16, 25, 27, 64, 61):
            self.assertEqual(follows(Theory(power), [], Equation(X ** power, X)).KIND, "derived")
            self.assertEqual(follows(Theory(power), [READ("x = 0")], Equation(X ** 5 + X, X * X)).KIND, "derived")
            self.assertTrue(breaks(follows(Theory(power), [], READ("(x * x) = x")), Theory(power), [], [READ("(x * x) = x")]))


class Refused(Case):
    NAMES = ["a", "b", "c", "d", "e"]

    def test_more_than_four_names(self):
        for theory in (NONE, Theory(2), OVER):
            equations = [Equation(one, other) for one, other in zip(self.NAMES, self.NAMES[1:])]
            self.refused(TooMany, 4, follows, theory, equations[1:], equations[0])
            self.refused(TooMany, 4, follows, theory, equations[:-1], equations[-1])
            self.refused(TooMany, 4, follows, theory, [], READ("(a + (b * c)) = (d - e)"))
            self.refused(TooMany, 4, any_follows, theory, equations[1:], equations[0])
            self.refused(TooMany, 4, any_follows, theory, [], *equations)
            self.refused(TooMany, 4, any_follows, theory, [], READ("0 = 0"), *equations)
        self.assertEqual(follows(Theory(2), [READ("a = b"), READ("b = c")], READ("c = d")).KIND, "broken")

    def test_too_many_points(self):
        facts, goal = [READ("a = b"), READ("b = c")], READ("c = d")
        for theory in (OVER, Theory(64), Theory(61)):
            self.refused(TooMany, 6000, follows, theory, facts, goal)
            self.refused(TooMany, 6000, follows, theory, [], READ("(a * b) = (c * d)"))
            self.refused(TooMany, 6000, any_follows, theory, facts, goal)
            # Each goal alone has few points, but not all together.
            self.refused(TooMany, 6000, any_follows, theory, [], READ("a = b"), READ("0 = 0"), goal)
        self.assertEqual(follows(NEAR, facts, goal).KIND, "broken")
        self.assertEqual(follows(NEAR, facts + [goal], READ("a = d")).KIND, "derived")
        with mock.patch("selfpower.points.MOST_POINTS", 5857):
            self.refused(TooMany, 5857, follows, NEAR, facts, goal)
            self.refused(TooMany, 5857, any_follows, NEAR, facts, goal)


class SeveralGoals(Case):
    def check(self, theory, facts, goals):
        index, found = any_follows(theory, facts, *goals)
        right = [place for place, goal in enumerate(goals) if really_follows(theory, facts, goal)]
        if right:
            self.assertEqual([index, type(index), found.KIND], [right[0], int, "derived"])
            self.assertIs(found.holds(theory, facts, goals[index]), True)
            self.assertTrue(is_derivation(found, theory, facts, goals[index]))
        else:
            self.assertEqual([index, found.KIND, sorted(found.given())], [None, "broken", names_of(facts + list(goals))])
            self.assertLessEqual(1, len(found.world))
            self.assertLessEqual(len(found.world), len(goals))
            self.assertTrue(breaks(found, theory, facts, goals))
        return index

    def test_by_hand(self):
        three = Theory(3)
        self.assertEqual(self.check(three, SQUARES, [READ("x = y"), READ("x = 0")]), 0)
        self.assertEqual(self.check(three, SQUARES, [READ("x = 0"), READ("x = y")]), 1)
        self.assertEqual(self.check(three, SQUARES, [READ("z = 0"), READ("x = y"), READ("y = x")]), 1)
        # Each element of a field is 0 or 1, or 1 or 2, but not each element of a world.
        self.assertIsNone(self.check(Theory(2), [], [READ("x = 0"), READ("x = 1")]))
        self.assertIsNone(self.check(three, [], [READ("x = 0"), READ("x = 1"), READ("x = 2")]))
        self.assertEqual(self.check(Theory(2), [], [READ("x = 0"), READ("x = 1"), READ("(x * x) = x")]), 2)

    def test_facts_as_a_tuple(self):
        goals = [READ("x = 0"), READ("x = y")]
        index, found = any_follows(Theory(3), tuple(SQUARES), *goals)
        self.assertEqual([index, found.holds(Theory(3), tuple(SQUARES), goals[1])], [1, True])
        index, found = any_follows(Theory(3), tuple(SQUARES[:1]), *goals)
        self.assertEqual([index, found.holds(Theory(3), tuple(SQUARES[:1]), goals[1])], [None, True])
        self.assertEqual(follows(Theory(3), (), goals[0]).holds(Theory(3), (), goals[0]), True)

    def test_derivations_have_the_names_of_their_goal(self):
        _, found = any_follows(Theory(2), [READ("x = y")], READ("a = b"), READ("y = x"))
        self.assertEqual([factor.variables for factor in found.factors()], [("x", "y")])
        _, found = any_follows(Theory(2), [READ("x = y")], READ("(a * x) = (a * y)"), READ("b = x"))
        self.assertEqual([factor.variables for factor in found.factors()], [("a", "x", "y")])

    def test_equations_by_chance(self):
        found = []
        for seed in range(120):
            theory = THEORIES[seed % len(THEORIES)]
            made = equations_by(seed, 2 + seed % 4, ["x", "y"])
            facts = made[:seed % 3]
            found.append(self.check(theory, facts, made[seed % 3:] or made[:1]))
        self.assertGreater(found.count(None), 20)
        self.assertGreater(found.count(0), 20)
        self.assertGreater(len(set(found)), 3)

    def test_how_many_goals(self):
        goals = [Equation(X, number) for number in range(17)]
        # In the field of 61 elements, none of the numbers is another one.
        self.assertIsNone(self.check(Theory(61), [], goals[:16]))
        self.assertIsNone(self.check(Theory(61), [], goals[:1]))
        self.assertEqual(self.check(Theory(61), [], goals[:15] + [Equation(X, X)]), 15)
        for theory in (Theory(2), NONE, OVER):
            self.refused(InvalidNumber, 0, any_follows, theory, [])
            self.refused(InvalidNumber, 17, any_follows, theory, [], *goals)
            # A wrong number of goals goes ahead of too many names.
            many = [Equation(one, other) for one, other in itertools.combinations("abcdefg", 2)]
            self.refused(InvalidNumber, 21, any_follows, theory, [], *many)
            self.refused(InvalidNumber, 0, any_follows, theory, many)
        _, found = any_follows(Theory(2), [], *[Equation(X, number) for number in range(16)])
        self.assertEqual(len(found.world), 2)

    def test_theories_without_sizes(self):
        self.assertEqual(any_follows(NONE, [], READ("0 = 1"), READ("x = x"))[0], 0)
        self.assertEqual(self.check(NONE, SQUARES, [READ("x = 0"), READ("x = y")]), 0)


class BentDerivations(Case):
    def test_other_factors(self):
        theory, facts, goal = Theory(4), SQUARES, READ("(x + a) = (y + a)")
        found = follows(theory, facts, goal)
        factors = found.factors()
        self.assertIs(found.holds(theory, facts, goal), True)
        # Left out, doubled, one more, in another order.
        for wrong in (factors[:1], factors[1:], [], factors + factors[:1], factors[:1] * 2, factors[::-1], factors * 2,
                      factors + [factors[0] * 0]):
            self.assertIs(Derived(wrong).holds(theory, facts, goal), False)
        # Changed at one point.
        changed = 0
        for place, factor in enumerate(factors):
            for point in theory.points(3):
                for value in range(point[0]):
                    bent = [other.copied() for other in factors]
                    bent[place][point] = value
                    expected = is_derivation_at(bent, theory, facts, goal, point)
                    self.assertIs(Derived(bent).holds(theory, facts, goal), expected)
                    changed += not expected
        self.assertGreater(changed, 30)

    def test_other_theories(self):
        found = follows(Theory(4), SQUARES, READ("x = y"))
        for theory in (Theory(2), Theory(3), Theory(8), Theory(4, [Equation(0, 0)]), Theory(10), NONE, Theory(64)):
            self.assertIs(found.holds(theory, SQUARES, READ("x = y")), False)
        self.assertIs(found.holds(Theory(4), SQUARES, READ("x = y")), True)
        self.assertIs(found.holds(Theory(4, ()), tuple(SQUARES), READ("x = y")), True)
        for factor in (0, 1):
            mixed = found.factors()
            other = Theory(4, [Equation(0, 0)])
            mixed[factor] = Table(other, ["x", "y"], mixed[factor].entries())
            self.assertIs(Derived(mixed).holds(Theory(4), SQUARES, READ("x = y")), False)
            self.assertIs(Derived(mixed).holds(other, SQUARES, READ("x = y")), False)

    def test_other_names(self):
        theory, facts, goal = Theory(4), SQUARES, READ("x = y")
        factors = follows(theory, facts, goal).factors()
        for names in (["y", "x"], ["x", "z"], ["a", "b"]):
            for place in (0, 1):
                wrong = list(factors)
                wrong[place] = Table(theory, names, factors[place].entries())
                self.assertIs(Derived(wrong).holds(theory, facts, goal), False)
        for names in (["x"], [], ["x", "y", "z"]):
            wrong = [Table(theory, names, [0] * len(theory.points(len(names)))), factors[1]]
            self.assertIs(Derived(wrong).holds(theory, facts, goal), False)
        # A fact or a goal with one name more.
        self.assertIs(Derived(factors).holds(theory, facts, READ("(x + a) = (y + a)")), False)
        self.assertIs(Derived(factors).holds(theory, facts[:1] + [READ("((x * y) + (0 * b)) = 1")], goal), False)

    def test_other_facts_and_goals(self):
        theory, goal = Theory(4), READ("x = y")
        found = follows(theory, SQUARES, goal)
        for facts in (SQUARES[:1], SQUARES[::-1], SQUARES * 2, [], SQUARES + [READ("0 = 0")]):
            self.assertIs(found.holds(theory, facts, goal), False)
        for other in (READ("x = 0"), READ("(x + 1) = y"), READ("((x * y) + x) = y")):
            self.assertIs(found.holds(theory, SQUARES, other), False)
        self.assertIs(Derived([]).holds(theory, [], READ("(x ** 4) = x")), True)
        self.assertIs(Derived([]).holds(theory, [], READ("(x ** 2) = x")), False)
        self.assertIs(Derived([]).holds(NONE, [], READ("0 = 1")), True)
        self.assertIs(Derived([]).holds(theory, [], READ("0 = 1")), False)

    def test_more_than_four_names(self):
        facts, goal = [READ("a = b"), READ("b = c")], READ("d = e")
        table = Table(Theory(2), ["a", "b", "c", "d"], [0] * 16)
        for theory in (Theory(2), NONE, OVER):
            self.assertIs(Derived([table, table]).holds(theory, facts, goal), False)
            self.assertIs(Derived([]).holds(theory, [], READ("(((a + b) + (c + d)) + e) = (e + ((c + d) + (a + b)))")), False)

    def test_too_many_points(self):
        table = Table(Theory(2), ["a", "b", "c", "d"], [0] * 16)
        goal = READ("((a + b) + (c + d)) = ((c + d) + (a + b))")
        self.assertIs(Derived([table]).holds(OVER, [goal], goal), False)
        self.assertIs(Derived([table]).holds(OVER, [], goal), False)
        self.refused(TooMany, 6000, Derived([]).holds, OVER, [], goal)
        self.assertIs(Derived([]).holds(NEAR, [], goal), True)


def is_derivation_at(factors, theory, facts, goal, point):
    """Whether the sum is right at one point."""
    size, row = point
    field, given = Field(size), dict(zip(names_of(facts + [goal]), row))
    total = 0
    for factor, fact in zip(factors, facts):
        total = field.plus(total, field.times(factor[point], difference(fact, field, given)))
    return total == difference(goal, field, given)


class BentBrokens(Case):
    def test_other_worlds_and_elements(self):
        theory, facts, goal = Theory(4), [READ("(x * x) = y")], READ("x = y")
        for sizes in ((2,), (4,), (2, 4), (4, 4), (3,), (8,), (2, 3)):
            choices = list(itertools.product(*[range(size) for size in sizes]))
            for x, y in itertools.product(choices[:8], choices[:8]):
                broken = Broken(World(*sizes), {"x": x, "y": y})
                rows = [(Field(size), {"x": x[place], "y": y[place]}) for place, size in enumerate(sizes)]
                expected = (set(sizes) <= {2, 4} and all(facts[0].holds(field, row) for field, row in rows)
                            and not all(goal.holds(field, row) for field, row in rows))
                self.assertIs(broken.holds(theory, facts, goal), expected)

    def test_other_theories(self):
        broken = Broken(World(2, 4), {"x": (1, 2)})
        for theory in (Theory(4), Theory(7), Theory(64), Theory(16), Theory(10, [READ("(x ** 4) = x")])):
            self.assertIs(broken.holds(theory, [], READ("(x * x) = x")), True)
        for theory in (Theory(2), Theory(3), Theory(8), ODD, NONE):
            self.assertIs(broken.holds(theory, [], READ("(x * x) = x")), False)

    def test_missing_and_further_names(self):
        theory, facts, goal = Theory(2), [READ("x = y")], READ("x = z")
        given = {"x": (1,), "y": (1,), "z": (0,)}
        self.assertIs(Broken(World(2), given).holds(theory, facts, goal), True)
        for name in given:
            less = {other: value for other, value in given.items() if other != name}
            self.assertIs(Broken(World(2), less).holds(theory, facts, goal), False)
            self.assertIs(Broken(World(2), {**less, "w": (0,)}).holds(theory, facts, goal), False)
        self.assertIs(Broken(World(2), {**given, "a": (0,)}).holds(theory, facts, goal), False)
        self.assertIs(Broken(World(2), {}).holds(theory, facts, goal), False)
        self.assertIs(Broken(World(2), {"x": (0,)}).holds(theory, [], READ("0 = 1")), False)
        self.assertIs(Broken(World(2), {}).holds(theory, [], READ("0 = 1")), True)
        self.assertIs(Broken(World(2), {}).holds(theory, [READ("0 = 1")], READ("0 = 1")), False)

    def test_values_that_are_no_elements(self):
        theory, goal = Theory(4), READ("x = y")
        for value in NO_NUMBERS + [0, 1, (0,), (0, 4), (2, 0), (0, 0, 0), [0, 0], (0, True), (0, -1), (0, None)]:
            self.assertIs(Broken(World(2, 4), {"x": value, "y": (1, 1)}).holds(theory, [], goal), False)
            self.assertIs(Broken(World(2, 4), {"x": (1, 3), "y": value}).holds(theory, [], goal), False)

    def test_more_than_four_names(self):
        names = "abcdefgh"
        facts = [Equation(one, other) for one, other in zip(names[1:], names[2:])]
        given = {"a": (0, 1), **{name: (1, 1) for name in names[1:]}}
        for theory in (Theory(2), Theory(64), Theory(61)):
            self.assertIs(Broken(World(2, 2), given).holds(theory, facts, READ("a = b")), True)
            self.assertIs(Broken(World(2, 2), given).holds(theory, facts, READ("h = b")), False)

    def test_goals_and_facts_turned_about(self):
        broken = follows(Theory(4), [READ("x = 1")], READ("y = 1"))
        self.assertIs(broken.holds(Theory(4), [READ("x = 1")], READ("y = 1")), True)
        self.assertIs(broken.holds(Theory(4), [READ("y = 1")], READ("x = 1")), False)
        self.assertIs(broken.holds(Theory(4), [READ("x = 1"), READ("y = 1")], READ("y = 1")), False)


if __name__ == "__main__":
    unittest.main()
