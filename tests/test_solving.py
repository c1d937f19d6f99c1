import itertools
import random
import unittest
from unittest import mock

from selfpower import solving
from selfpower.equations import Equation
from selfpower.errors import DuplicateName, InvalidElement, InvalidName, InvalidNumber, InvalidSize, TooMany, UnknownName
from selfpower.fields import Field
from selfpower.solving import Solution, Solved, Unsolved, solutions, solve
from selfpower.tables import Table
from selfpower.terms import Term
from selfpower.theories import Theory
from selfpower.worlds import World
from selfpower.writing import term_of
from tests import oracle
from tests.checks import Case, NEAR, NO_NAMES, NONE, ODD, OVER
from tests.oracle import NO_NUMBERS
from tests.test_deriving import equations_by

X, Y = Term.of("x"), Term.of("y")

READ = Equation.read

THEORIES = [Theory(2), Theory(3), Theory(4), Theory(5), Theory(7), Theory(8), Theory(9), ODD, NONE, Theory(16)]

# Questions: facts, given names, sought names.
QUESTIONS = [
    (["(x * x) = a"], ["a"], ["x"]), (["((x * x) + x) = 1"], [], ["x"]), (["((x * x) + x) = a"], ["a"], ["x"]),
    (["(x * a) = b"], ["a", "b"], ["x"]), (["(x * a) = b"], ["b", "a"], ["x"]), (["(x * y) = 1"], ["x"], ["y"]),
    (["(x * y) = a", "(x + y) = 0"], ["a"], ["y", "x"]), (["x = 0", "x = 1"], [], ["x"]), (["a = 0"], ["a"], ["x"]),
    (["0 = 0"], ["a"], ["x"]), ([], ["a"], ["x", "y"]), ([], [], ["x"]), (["0 = 1"], [], ["x"]), (["2 = 0"], ["a"], ["x"]),
    (["(x ** 3) = a", "where(x, a, 1, 0) = 0"], ["a"], ["x"]), (["(x ** 3) = y"], [], ["x", "y"]), (["x = (a + b)"], ["a", "b"], ["x"]),
    (["((x * x) + x) = (a * b)", "(x * b) = (x * a)"], ["b", "a"], ["x"]),
]


def facts_of(texts):
    return [READ(text) for text in texts]


def found_by_trying(facts, given, sought, size, row):
    """The solutions in the field of a size, by trying all elements."""
    field = Field(size)
    return [elements for elements in itertools.product(range(size), repeat=len(sought))
            if all(fact.holds(field, dict(zip(given + sought, row + elements))) for fact in facts)]


class Example(unittest.TestCase):
    def test_the_example_of_the_document(self):
        four = Theory(4)
        found = solve(four, [Equation.read("(x * x) = a")], ["a"], ["x"])
        self.assertEqual([found.KIND, found.answer()["x"].entries(), len(found.general()["x"])], ["solved", [0, 1, 3], 10])
        facts = [Equation.read("((x * x) + x) = 1")]
        late = solve(four, facts, [], ["x"])
        self.assertEqual([late.KIND, late.condition.entries(), late.point, solutions(four, facts, [], ["x"], 4, ())],
                         ["unsolved", [1], (2, ()), [(2,), (3,)]])


class Interface(Case):
    def test_what_there_is(self):
        self.has_methods(Solution, {"answer": "(self)"})
        self.has_methods(Solved, {"general": "(self)"})
        for name in ("__bool__", "__repr__"):
            self.assertIn(name, vars(Solution))
        for name in ("condition", "point"):
            self.assertIsInstance(vars(Unsolved)[name], property)
        self.assertEqual([Solved.KIND, Unsolved.KIND], ["solved", "unsolved"])
        for kind in (Solved, Unsolved):
            self.assertTrue(issubclass(kind, Solution))
        for thing in (Solution, Solved, Unsolved, solve, solutions):
            self.assertEqual(thing.__module__, solving.__name__)

    def test_what_they_tell(self):
        facts = [READ("(x * x) = a")]
        solved = solve(theory=Theory(4), facts=facts, given=["a"], sought=["x"])
        unsolved = solve(Theory(3), tuple(facts), ("a",), ("x",))
        self.assertEqual([type(solved), solved.KIND, repr(solved), bool(solved)], [Solved, "solved", "Solution(solved)", True])
        self.assertEqual([type(unsolved), unsolved.KIND, repr(unsolved), bool(unsolved)],
                         [Unsolved, "unsolved", "Solution(unsolved)", False])
        self.assertEqual([type(solved.answer()), type(solved.general()), type(solved.answer()["x"]), type(unsolved.answer()),
                          type(unsolved.condition), type(unsolved.point)], [dict, dict, Table, dict, Table, tuple])
        self.assertIs(type(solutions(theory=Theory(4), facts=facts, given=["a"], sought=["x"], size=4, row=(2,))), list)

    def test_names_of_the_tables(self):
        for given, sought in ((["b", "a"], ["y", "x"]), (["y"], ["x", "a", "b"]), ([], ["b", "a"]), (["x", "y", "a"], ["b"])):
            solved = solve(Theory(2), [], given, sought)
            self.assertEqual([list(solved.answer()), list(solved.general())], [sought, sought])
            for name in sought:
                self.assertEqual([solved.answer()[name].variables, solved.general()[name].variables],
                                 [tuple(given), tuple(given + sought)])
                self.assertEqual([solved.answer()[name].theory, solved.general()[name].theory], [Theory(2)] * 2)
            unsolved = solve(Theory(2), [READ("0 = 1")], given, sought)
            self.assertEqual([list(unsolved.answer()), unsolved.condition.variables, unsolved.condition.theory],
                             [sought, tuple(given), Theory(2)])
            self.assertEqual([table.variables for table in unsolved.answer().values()], [tuple(given)] * len(sought))

    def test_later_changes_have_no_effect(self):
        facts, given, sought = [READ("(x * x) = a")], ["a"], ["x"]
        solved, unsolved = solve(Theory(4), facts, given, sought), solve(Theory(3), facts, given, sought)
        self.assertEqual([facts, given, sought], [[READ("(x * x) = a")], ["a"], ["x"]])
        before = self.told(solved, unsolved)
        facts.clear()
        given[0] = "b"
        sought.append("y")
        for tables in (solved.answer(), solved.general(), unsolved.answer(), {"x": unsolved.condition}):
            for point in [(2, (0,)), (2, (1,))]:
                for table in tables.values():
                    if point in table:
                        table[point] = 1 - table[point]
            tables["x"] *= 0
            tables.clear()
        condition = unsolved.condition
        condition *= 0
        self.assertEqual(self.told(solved, unsolved), before)

    def told(self, solved, unsolved):
        tables = [solved.answer()["x"], solved.general()["x"], unsolved.answer()["x"], unsolved.condition]
        return [table.entries() for table in tables] + [unsolved.point]


class Solving(Case):
    def check(self, theory, facts, given, sought):
        """The answer, the general one and the condition are right."""
        found = solve(theory, facts, given, sought)
        points = theory.points(len(given))
        possible = {point: found_by_trying(facts, given, sought, *point) for point in points}
        self.assertEqual(found.KIND, "solved" if all(possible.values()) else "unsolved")
        answer = found.answer()
        self.assertEqual(list(answer), sought)
        for point in points:
            values = tuple(answer[name][point] for name in sought)
            self.assertIn(values, possible[point] or [(0,) * len(sought)])
        if found:
            self.check_general(theory, facts, given, sought, found)
        else:
            self.assertEqual(found.condition.entries(), [int(not possible[point]) for point in points])
            self.assertEqual(found.point, [point for point in points if not possible[point]][0])
        return found

    def check_general(self, theory, facts, given, sought, found):
        """At all rows of all fields, the answer solves the facts, and the general solution does so and keeps solutions."""
        answer, general = found.answer(), found.general()
        self.assertEqual(list(general), sought)
        for size in theory.sizes:
            if size ** len(given + sought) > 700:
                continue
            for row in itertools.product(range(size), repeat=len(given)):
                right = set(found_by_trying(facts, given, sought, size, row))
                plain = tuple(answer[name].lookup(size, row) for name in sought)
                self.assertIn(plain, right)
                for elements in itertools.product(range(size), repeat=len(sought)):
                    values = tuple(general[name].lookup(size, row + elements) for name in sought)
                    self.assertEqual(values, elements if elements in right else plain)

    def test_questions(self):
        kinds = []
        for texts, given, sought in QUESTIONS:
            for theory in THEORIES:
                if len(theory.points(len(given + sought))) <= 300:
                    kinds.append(self.check(theory, facts_of(texts), given, sought).KIND)
        self.assertGreater(kinds.count("solved"), 40)
        self.assertGreater(kinds.count("unsolved"), 40)

    def test_questions_by_chance(self):
        kinds = []
        for seed in range(120):
            theory = THEORIES[seed % 8]
            given, sought = [(["a"], ["x"]), ([], ["x"]), (["a", "b"], ["x"]), (["b"], ["y", "x"]), ([], ["x", "y"])][seed % 5]
            if len(theory.points(len(given + sought))) > 100:
                given, sought = ["a"], ["x"]
            facts = equations_by(seed, 1 + seed % 2, given + sought)
            kinds.append(self.check(theory, facts, given, sought).KIND)
        self.assertGreater(kinds.count("solved"), 10)
        self.assertGreater(kinds.count("unsolved"), 10)

    def test_by_hand(self):
        found = self.check(Theory(4), [READ("(x * x) = a")], ["a"], ["x"])
        # The only root of each element.
        self.assertEqual(found.general()["x"].entries(), [found.answer()["x"].lookup(size, row[:1]) for size, row in Theory(4).points(2)])
        self.assertEqual(self.check(Theory(3), [READ("(x * x) = a")], ["a"], ["x"]).condition.zeros(),
                         [(2, (0,)), (2, (1,)), (3, (0,)), (3, (1,))])
        self.assertEqual(self.check(Theory(3), [READ("(x * x) = a")], ["a"], ["x"]).point, (3, (2,)))
        self.assertEqual(self.check(Theory(4), [READ("(x * a) = 1")], ["a"], ["x"]).condition.zeros(), [(2, (1,)), (4, (2,))])

    def test_elements_that_are_in_a_larger_field_only(self):
        # In the field of 4 elements there are two, but the given elements, none at all, are in that of 2 elements.
        facts = [READ("((x * x) + x) = 1")]
        found = self.check(Theory(4), facts, [], ["x"])
        self.assertEqual([found.KIND, found.point, found.answer()["x"].entries()], ["unsolved", (2, ()), [0]])
        found = self.check(Theory(4), [READ("((x * x) + x) = (a * (a + 1))")], ["a"], ["x"])
        self.assertEqual(found.KIND, "solved")
        # Given elements may bring the larger field along.
        found = self.check(Theory(16), [READ("((x * x) + x) = a")], ["a"], ["x"])
        self.assertEqual([point for point in found.condition.zeros() if point[0] == 2], [(2, (0,))])

    def test_the_answer_of_an_unsolved_one(self):
        for theory in THEORIES[:-2]:
            found = self.check(theory, [READ("(x * a) = 1"), READ("y = (a + 1)")], ["a"], ["x", "y"])
            self.assertEqual(found.KIND, "unsolved")
            for name in ("x", "y"):
                self.assertEqual({found.answer()[name][point] for point in theory.points(1) if found.condition[point] == 1}, {0})

    def test_theories_without_sizes(self):
        for texts, given, sought in QUESTIONS:
            found = self.check(NONE, facts_of(texts), given, sought)
            self.assertEqual([found.KIND, list(found.answer()), found.answer()[sought[0]].entries(), found.general()[sought[0]].entries()],
                             ["solved", sought, [], []])

    def test_four_names(self):
        for given, sought in (([], ["a", "b", "x", "y"]), (["a"], ["b", "x", "y"]), (["x", "a"], ["y", "b"]), (["x", "y", "a"], ["b"])):
            for theory in (Theory(2), Theory(3)):
                self.check(theory, facts_of(["((a + b) + (x + y)) = 1", "(x * a) = (b * y)"]), given, sought)

    def test_large_theories(self):
        for power, text in ((64, "(x * x) = (a * x)"), (61, "(x * a) = (a * a)"), (27, "(x ** 3) = a")):
            theory = Theory(power)
            found = solve(theory, [READ(text)], ["a"], ["x"])
            self.assertEqual(found.KIND, "solved")
            chance = random.Random(power)
            for _ in range(40):
                size = chance.choice(theory.sizes)
                a, x = chance.randrange(size), chance.randrange(size)
                for value in (found.answer()["x"].lookup(size, (a,)), found.general()["x"].lookup(size, (a, x))):
                    self.assertIs(READ(text).holds(Field(size), {"a": a, "x": value}), True)
                if READ(text).holds(Field(size), {"a": a, "x": x}):
                    self.assertEqual(found.general()["x"].lookup(size, (a, x)), x)

    def test_in_worlds(self):
        theory = Theory(4)
        facts = facts_of(["((x * x) + (x * a)) = ((b * b) + (b * a))"])
        found = solve(theory, facts, ["a", "b"], ["x"])
        self.assertEqual(found.KIND, "solved")
        answer, general = term_of(found.answer()["x"]), term_of(found.general()["x"])
        world, chance, kept = World(2, 4, 4), random.Random(1), 0
        for _ in range(100):
            given = {name: tuple(chance.randrange(size) for size in world.sizes) for name in ("a", "b", "x")}
            for term in (answer, general):
                self.assertIs(world.holds(facts[0], {**given, "x": world.evaluate(term, given)}), True)
            if world.holds(facts[0], given):
                kept += 1
                self.assertEqual(world.evaluate(general, given), given["x"])
        self.assertGreater(kept, 5)


class Listed(Case):
    def test_all_elements_tried(self):
        for texts, given, sought in QUESTIONS:
            facts = facts_of(texts)
            for theory in THEORIES:
                if len(theory.points(len(given + sought))) > 6000:
                    continue
                for size in theory.sizes:
                    for row in itertools.islice(itertools.product(range(size), repeat=len(given)), 0, None, 1 + size // 3):
                        if size ** len(sought) <= 300:
                            found = solutions(theory, facts, given, sought, size, row)
                            self.assertEqual(found, found_by_trying(facts, given, sought, size, row))
                            self.assertEqual({type(elements) for elements in found} - {tuple}, set())

    def test_by_hand(self):
        four = Theory(4)
        self.assertEqual(solutions(four, [READ("(x * y) = a")], ["a"], ["y", "x"], 4, (1,)), [(1, 1), (2, 3), (3, 2)])
        self.assertEqual(solutions(four, [READ("(x * y) = a")], ["a"], ["y", "x"], 2, (0,)), [(0, 0), (0, 1), (1, 0)])
        self.assertEqual(solutions(four, [], ["a"], ["x"], 4, (3,)), [(0,), (1,), (2,), (3,)])
        self.assertEqual(solutions(four, [READ("0 = 1")], ["a"], ["x"], 4, (3,)), [])
        self.assertEqual(solutions(four, [READ("x = (a + (b + b))")], ["b", "a"], ["x"], 4, (3, 2)), [(2,)])

    def test_tuples_in_place_of_lists(self):
        for theory in (Theory(3), Theory(4)):
            for given, sought in ((["a"], ["x"]), ([], ["a", "x"])):
                facts = [READ("(x * x) = a")]
                found, other = solve(theory, facts, given, sought), solve(theory, tuple(facts), tuple(given), tuple(sought))
                self.assertEqual([found.KIND, found.answer()], [other.KIND, other.answer()])
                self.assertEqual(solutions(theory, tuple(facts), tuple(given), tuple(sought), 2, (1,) * len(given)),
                                 solutions(theory, facts, given, sought, 2, (1,) * len(given)))
                self.assertEqual(solutions(theory, tuple(facts), tuple(given), sought, 2, (1,) * len(given)),
                                 solutions(theory, facts, given, tuple(sought), 2, (1,) * len(given)))

    def test_rows_that_are_no_points(self):
        for row in range(16):
            self.assertEqual(solutions(Theory(16), [READ("x = (a * a)")], ["a"], ["x"], 16, (row,)), [(oracle.times(16, row, row),)])

    def test_large_fields(self):
        found = solutions(Theory(61), [READ("(x * y) = 1")], [], ["x", "y"], 61, ())
        self.assertEqual([len(found), found == sorted(found), (60, 60) in found], [60, True, True])
        self.assertEqual(len(solutions(Theory(64), [READ("(x ** 8) = x")], ["a"], ["x"], 64, (63,))), 8)


class Refused(Case):
    def calls(self, theory, facts):
        """solve and solutions, with what solutions is passed beyond right, and wrong."""
        return [lambda given, sought: solve(theory, facts, given, sought),
                lambda given, sought: solutions(theory, facts, given, sought, 2, (0,)),
                lambda given, sought: solutions(theory, facts, given, sought, None, ()),
                lambda given, sought: solutions(theory, facts, given, sought, 2, (None, 5))]

    def all_calls(self, *facts):
        return [call for theory in (Theory(4), NONE, OVER) for call in self.calls(theory, list(facts))]

    def test_wrong_names(self):
        for call in self.all_calls(READ("z = 0")):
            for value in NO_NAMES + ["where", "axiom", X]:
                self.refused(InvalidName, value, call, [value], ["x"])
                self.refused(InvalidName, value, call, ["a"], [value])
                self.refused(InvalidName, value, call, ["a", "b"], ["x", value, None])
                self.refused(InvalidName, value, call, ["a", value], [None])
                # A wrong name goes ahead of all other errors.
                self.refused(InvalidName, value, call, ["a", "a", "b", "c", "d", value], [])
                self.refused(InvalidName, value, call, ("x",), ("x", value))

    def test_names_that_occur_earlier(self):
        for call in self.all_calls(READ("z = 0")):
            self.refused(DuplicateName, "x", call, ["x"], ["x"])
            self.refused(DuplicateName, "x", call, ["x", "x"], [])
            self.refused(DuplicateName, "b", call, ["a", "b"], ["x", "b", "a"])
            self.refused(DuplicateName, "y", call, ["a"], ["y", "y", "a"])
            self.refused(DuplicateName, "a", call, ("a", "b", "c"), ("d", "e", "a"))

    def test_no_sought_names(self):
        for call in self.all_calls(READ("z = 0")):
            self.refused(InvalidNumber, 0, call, [], [])
            self.refused(InvalidNumber, 0, call, ["a"], ())
            # It goes ahead of too many names.
            self.refused(InvalidNumber, 0, call, list("abcdef"), [])

    def test_more_than_four_names(self):
        for call in self.all_calls(READ("z = 0")):
            self.refused(TooMany, 4, call, ["a", "b"], ["x", "y", "c"])
            self.refused(TooMany, 4, call, [], list("abcde"))
            self.refused(TooMany, 4, call, list("abcd"), ["x"])

    def test_unknown_names(self):
        facts = [READ("z = a"), READ("c = (x + b)")]
        for theory in (Theory(4), NONE, OVER):
            for call in self.calls(theory, facts):
                self.refused(UnknownName, "b", call, ["a"], ["x"])
                self.refused(UnknownName, "a", call, ["b"], ["x"])
                self.refused(UnknownName, "c", call, ["b", "a"], ["x", "z"])
                self.refused(UnknownName, "z", call, ["a", "c"], ["x", "b"])
                self.refused(UnknownName, "a", call, ["x"], ["y"])
        self.assertEqual(solve(Theory(2), facts[:1], ["z"], ["a", "x"]).KIND, "solved")

    def test_too_many_points(self):
        for theory in (OVER, Theory(64)):
            for call in self.calls(theory, [READ("a = b")]):
                self.refused(TooMany, 6000, call, ["a"], ["b", "c", "d"])
                self.refused(TooMany, 6000, call, ["a", "b", "c"], ["d"])
                self.refused(TooMany, 6000, call, (), ("a", "b", "c", "d"))
        self.assertEqual(solve(NEAR, [READ("a = b")], ["a"], ["b", "c", "d"]).KIND, "solved")
        self.assertEqual(len(solutions(NEAR, [READ("a = b")], ["a"], ["b", "c", "d"], 9, (5,))), 81)
        with mock.patch("selfpower.points.MOST_POINTS", 5857):
            for call in self.calls(NEAR, [READ("a = b")]):
                self.refused(TooMany, 5857, call, ["a"], ["b", "c", "d"])

    def test_sizes_of_solutions(self):
        for theory in (Theory(4), ODD, NONE):
            for value in NO_NUMBERS + [size for size in [0, 1, -2, 6, 10 ** 30] + oracle.ALL_SIZES if size not in theory.sizes]:
                self.refused(InvalidSize, value, solutions, theory, [], ["a"], ["x"], value, (0,))
                # A wrong size goes ahead of wrong elements and of their number.
                self.refused(InvalidSize, value, solutions, theory, [], ["a"], ["x"], value, (None, 0))

    def test_elements_of_solutions(self):
        for size in (2, 4):
            for value in NO_NUMBERS + [-1, size, size + 1, 10 ** 30]:
                self.refused(InvalidElement, value, solutions, Theory(4), [], ["a"], ["x"], size, (value,))
                self.refused(InvalidElement, value, solutions, Theory(4), [], ["a", "b"], ["x"], size, (1, value))
                self.refused(InvalidElement, value, solutions, Theory(4), [], ["a", "b"], ["x"], size, (value, None))
                # A wrong element goes ahead of a wrong number of them.
                self.refused(InvalidElement, value, solutions, Theory(4), [], [], ["x"], size, (0, value))

    def test_how_many_elements(self):
        for given in ([], ["a"], ["a", "b"], ["a", "b", "c"]):
            for many in range(6):
                if many != len(given):
                    self.refused(InvalidNumber, many, solutions, Theory(4), [], given, ["x"], 4, (1,) * many)


if __name__ == "__main__":
    unittest.main()
