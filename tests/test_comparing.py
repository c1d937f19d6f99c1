import itertools
import unittest
from unittest import mock

from selfpower import comparing
from selfpower.comparing import Comparison, Parted, Same, compare
from selfpower.equations import Equation
from selfpower.errors import TooMany, Unlike
from selfpower.programs import Program
from selfpower.terms import Term
from selfpower.theories import Theory
from selfpower.worlds import World
from tests import run_oracle
from tests.checks import Case, NEAR, NONE, ODD, OVER
from tests.oracle import NO_NUMBERS
from tests.run_oracle import Maker

X, Y = Term.of("x"), Term.of("y")

FEW = [(Theory(4), 1), (Theory(2), 2), (Theory(3), 1), (Theory(5), 1), (Theory(2), 3), (Theory(8), 1), (ODD, 0), (Theory(16), 1)]

SAME = Program("same", ["x"], [], ["x"])
CUBE = Program("cube", ["x"], [], [X ** 3])


def asks(*equations, outputs=("x", "y")):
    """A program of x that sets y to the number of the first equation that holds, or of all if none does."""
    steps = [("set", "y", len(equations))]
    for place, equation in reversed(list(enumerate(equations))):
        steps = steps[:1] + [("test", equation.one, equation.other, [("set", "y", place)], steps[1:])]
    return Program("asks", ["x"], steps, list(outputs))


class Example(unittest.TestCase):
    def test_the_example_of_the_document(self):
        x, y = Term.of("x"), Term.of("y")
        one, other = Program("one", ["x", "y"], [], [x * y]), Program("other", ["a", "b"], [], [Term.of("b") * Term.of("a")])
        cube = Program("cube", ["x"], [], [x ** 3])
        parted = compare(Theory(4), cube, Program("same", ["x"], [], [x]))
        self.assertEqual([compare(Theory(7), one, other).pairs, parted.world.sizes, parted.holds(Theory(4), cube, cube)],
                         [1, (4,), False])


class Interface(Case):
    def test_what_there_is(self):
        self.has_methods(Same, {"__init__": "(self, pairs)", "holds": "(self, theory, one, other)"})
        self.has_methods(Parted, {"__init__": "(self, world, row)", "holds": "(self, theory, one, other)"})
        for name in ("__bool__", "__repr__"):
            self.assertIn(name, vars(Comparison))
        self.assertIsInstance(vars(Same)["pairs"], property)
        for name in ("world", "row"):
            self.assertIsInstance(vars(Parted)[name], property)
        self.assertEqual([Same.KIND, Parted.KIND], ["same", "parted"])
        for thing in (Comparison, Same, Parted, compare):
            self.assertEqual(thing.__module__, comparing.__name__)
        for kind in (Same, Parted):
            self.assertTrue(issubclass(kind, Comparison))

    def test_what_they_tell(self):
        same, parted = Same(pairs=3), Parted(world=World(2, 4), row=((0, 1), (1, 3)))
        self.assertEqual([same.pairs, same.KIND, repr(same), bool(same)], [3, "same", "Comparison(same)", True])
        self.assertEqual([parted.world, parted.row, parted.KIND, repr(parted), bool(parted)],
                         [World(2, 4), ((0, 1), (1, 3)), "parted", "Comparison(parted)", False])

    def test_kinds(self):
        same, parted = compare(Theory(4), SAME, SAME), compare(Theory(4), one=SAME, other=CUBE)
        self.assertEqual([type(same), type(parted), type(same.pairs), type(parted.world), type(parted.row), type(parted.row[0])],
                         [Same, Parted, int, World, tuple, tuple])


class ByHand(Case):
    def test_terms(self):
        for power in (2, 3, 4, 7, 16):
            theory = Theory(power)
            for one, other in ((X ** power, X), ((X + 1) * (X - 1), X * X - 1), (X ** (power * power), X),
                               (Term.where(X, 0, 0, 1), X ** (power - 1))):
                self.assertEqual(compare(theory, Program("f", ["x"], [], [one]), Program("g", ["y"], [], [other.filled(x="y")])).pairs, 1)
            for one, other in ((X * X + 1, X), (X + 1, X), (Term.of(0), X), (Term.of(0), Term.of(1))):
                program, second = Program("f", ["x"], [], [1, one]), Program("g", ["x"], [], [1, other])
                found = compare(theory, program, second)
                self.assertEqual([found.KIND, len(found.world), found.holds(theory, program, second)], ["parted", 1, True])

    def test_where_only_two_points_together_part_two_programs(self):
        theory = Theory(2)
        # 0 in one field and 1 in another one: neither equation holds, and in a field alone one of them does.
        one = asks(Equation(X, 0), Equation(X, 1))
        other = asks(Equation(X, 0), Equation(1, 1))
        self.assertEqual([compare(theory, one, one).pairs, compare(theory, other, other).pairs], [3, 2])
        found = compare(theory, one, other)
        self.assertEqual([found.KIND, found.world.sizes, sorted(found.row[0])], ["parted", (2, 2), [0, 1]])
        self.assertIs(found.holds(theory, one, other), True)
        self.assertIs(found.holds(theory, one, one), False)

    def test_pairs(self):
        theory = Theory(2)
        one = Program("one", ["x"], [("test", X, 0, [], [])], [7])
        other = Program("other", ["x"], [("test", X, 1, [], [])], [7])
        # Both tests fail together, but they do not hold together.
        self.assertEqual([compare(theory, one, one).pairs, compare(theory, one, other).pairs], [2, 3])
        twice = Program("twice", ["x"], [("test", X, 0, [], []), ("test", X, 1, [], [])], [7])
        self.assertEqual([compare(theory, twice, twice).pairs, compare(theory, twice, one).pairs], [3, 3])
        self.assertEqual(compare(Theory(3), twice, one).pairs, 3)

    def test_outputs_of_which_only_the_last_differs(self):
        one, other = Program("f", ["x"], [], [X, 1, 2, 3, 4, X]), Program("g", ["x"], [], [X, 1, 2, 3, 4, X ** 3])
        self.assertEqual(compare(Theory(3), one, other).pairs, 1)
        self.assertEqual(compare(Theory(4), one, other).KIND, "parted")
        self.assertEqual(compare(Theory(4), Program("f", ["x"], [], [X, 0]), Program("g", ["x"], [], [0, X])).KIND, "parted")

    def test_theories_without_sizes(self):
        asking = asks(Equation(X, 0), outputs=["x"])
        for one, other in itertools.product([SAME, CUBE, asking, Program("n", ["y"], [], [1])], repeat=2):
            found = compare(NONE, one, other)
            self.assertEqual([found.KIND, found.pairs, found.holds(NONE, one, other)], ["same", 0, True])

    def test_nothing_is_changed(self):
        one, other = asks(Equation(X, 0), Equation(X, 1)), asks(Equation(X, 0))
        texts = [one.text(), other.text()]
        first = compare(Theory(4), one, other)
        second = compare(Theory(4), one, other)
        self.assertEqual([one.text(), other.text()], texts)
        self.assertEqual([first.world, first.row], [second.world, second.row])


class ByTrying(Case):
    kept = {}

    def runs_of(self, program, theory):
        key = (repr(program.rows), theory.sizes)
        if key not in self.kept:
            self.kept[key] = run_oracle.all_runs(program, theory.sizes)
        return self.kept[key]

    def check(self, theory, one, other):
        """The answer is right for all sets of points."""
        firsts, seconds = self.runs_of(one, theory), self.runs_of(other, theory)
        pairs = {(firsts[chosen][0], seconds[chosen][0]) for chosen in firsts}
        parted = [chosen for chosen in firsts if firsts[chosen][1] != seconds[chosen][1]]
        found = compare(theory, one, other)
        self.assertEqual([found.KIND, bool(found)], ["parted", False] if parted else ["same", True])
        self.assertIs(found.holds(theory, one, other), True)
        if not parted:
            self.assertEqual(found.pairs, len(pairs))
            return 0
        self.assertIs(found.world.obeys(theory), True)
        runs = [run_oracle.run(program, found.world.sizes, found.row) for program in (one, other)]
        self.assertNotEqual(runs[0][1], runs[1][1])
        failed = sum(told.count(False) for told, _ in runs)
        self.assertLessEqual(len(found.world), 1 + failed)
        return min(len(chosen) for chosen in parted)

    def test_programs_by_chance(self):
        least = []
        for seed in range(56):
            theory, many = FEW[seed % len(FEW)]
            maker = Maker(seed)
            known = [maker.flat("f", 1, 1), maker.program("h", 1, 1, 2)]
            one = maker.program("p", many, 1, 4, known)
            if seed % 3:
                self.check(theory, one, self.twin(one, maker))
            else:
                least.append(self.check(theory, one, maker.program("q", many, 1, 4, known)))
            least.append(self.check(theory, self.twin(one, maker), maker.program("q", many, 1, 2, known)))
        self.assertTrue({0, 1} <= set(least))

    def twin(self, program, maker):
        """A program that returns the same, with a test more, another name and other terms."""
        outputs = [term + 0 for term in program.outputs()]
        steps = [("test", maker.term(program.inputs(), 2), maker.term(program.inputs(), 2), [], [])] + program.steps()
        return Program("twin", program.inputs(), steps, outputs)

    def test_small_programs_that_ask(self):
        """All pairs of programs that ask for a few equations, one in another: some only two points or three part."""
        equations = [Equation(X, 0), Equation(X, 1), Equation(X * X, X), Equation(1, 1), Equation(2, 0)]
        made = [asks(*chosen) for many in (1, 2, 3) for chosen in itertools.permutations(equations, many)][::4]
        least = set()
        for theory in (Theory(2), Theory(4), Theory(3)):
            for one, other in itertools.product(made, made[::3]):
                least.add(self.check(theory, one, other))
        self.assertTrue({0, 1, 2} <= least, least)

    def test_six_tests_each(self):
        theory = Theory(2)
        steps = [("set", "u", 0)] + [("test", name, number, [], [("set", "u", Term.of("u") * Term.of("a") + Term.of(name))])
                                     for name in "abc" for number in (0, 1)]
        one = Program("one", list("abc"), steps, ["u"])
        other = Program("other", list("abc"), steps[:1] + steps[:0:-1], ["u"])
        self.assertEqual([one.tests(), other.tests()], [6, 6])
        self.check(theory, one, one)
        self.check(theory, one, other)


class Bent(Case):
    """Certificates that are bent at one place."""

    def test_same(self):
        theory = Theory(4)
        one, other = asks(Equation(X, 0), Equation(X, 1)), asks(Equation(X, 0), Equation(X, 1), outputs=["x", Y * 1])
        pairs = compare(theory, one, other).pairs
        self.assertIs(Same(pairs).holds(theory, one, other), True)
        for wrong in (pairs - 1, pairs + 1, 0, -1, 100):
            self.assertIs(Same(wrong).holds(theory, one, other), False)
        self.assertIs(Same(pairs).holds(theory, one, asks(Equation(X, 0))), False)
        self.assertIs(Same(pairs).holds(NONE, one, other), False)
        self.assertIs(Same(0).holds(NONE, one, other), True)
        self.assertIs(Same(1).holds(Theory(3), CUBE, SAME), True)
        self.assertIs(Same(1).holds(theory, CUBE, SAME), False)

    def test_same_of_programs_that_compare_refuses(self):
        for other in (Program("f", [], [], [1]), Program("f", ["x", "y"], [], ["x"]), Program("f", ["x"], [], ["x", "x"])):
            for pairs in (0, 1, 2):
                for theory in (Theory(4), NONE):
                    self.assertIs(Same(pairs).holds(theory, SAME, other), False)
                    self.assertIs(Same(pairs).holds(theory, other, SAME), False)

    def test_parted(self):
        theory = Theory(4)
        world, row = World(2, 4), ((1, 2),)
        self.assertIs(Parted(world, row).holds(theory, CUBE, SAME), True)
        self.assertIs(Parted(world, row).holds(Theory(7), CUBE, SAME), True)
        self.assertIs(Parted(world, row).holds(Theory(4), CUBE, CUBE), False)
        # Other theories, and other worlds.
        for other in (Theory(2), Theory(3), Theory(8), ODD, NONE):
            self.assertIs(Parted(world, row).holds(other, CUBE, SAME), False)
        self.assertIs(Parted(World(2, 7), ((1, 2),)).holds(theory, CUBE, SAME), False)
        self.assertIs(Parted(World(2, 7), ((1, 2),)).holds(Theory(7), CUBE, SAME), True)
        self.assertIs(Parted(World(2, 2), row).holds(theory, CUBE, SAME), False)
        self.assertIs(Parted(World(4), row).holds(theory, CUBE, SAME), False)
        # Other rows.
        for other in ((), ((1, 1),), ((1, 0),), ((0, 1),), ((1, 2), (1, 2)), ((1, 4),), ((2, 2),), ((1, 2, 0),), ((1,),), (2,),
                      ([1, 2],), ((1, True),), ((1, None),)):
            self.assertIs(Parted(world, other).holds(theory, CUBE, SAME), False, other)
        for value in NO_NUMBERS + [-1, 4, 5]:
            self.assertIs(Parted(world, (value,)).holds(theory, CUBE, SAME), False)
            self.assertIs(Parted(world, ((1, value),)).holds(theory, CUBE, SAME), False)
            self.assertIs(Parted(world, (value,)).holds(theory, CUBE, asks(Equation(X, 0), outputs=["y"])), False)

    def test_parted_with_other_numbers_of_inputs(self):
        world, row = World(2, 4), ((1, 2),)
        none, two = Program("f", [], [], [1]), Program("f", ["x", "y"], [], ["x"])
        for one, other in ((none, SAME), (SAME, none), (two, SAME), (SAME, two), (none, none), (two, two), (none, two)):
            self.assertIs(Parted(world, row).holds(Theory(4), one, other), False)
        self.assertIs(Parted(world, ()).holds(Theory(4), none, Program("g", [], [], [0])), True)
        self.assertIs(Parted(world, ()).holds(Theory(4), none, SAME), False)
        self.assertIs(Parted(world, ((1, 1), (0, 0))).holds(Theory(4), two, Program("g", ["x", "y"], [], ["y"])), True)

    def test_a_row_too_short_and_a_row_too_long(self):
        theory = Theory(4)
        one, other = Program("f", ["x", "y"], [], [X * Y]), Program("g", ["x", "y"], [], [X + Y])
        found = compare(theory, one, other)
        self.assertIs(found.holds(theory, one, other), True)
        for row in (found.row[:1], found.row + found.row[:1], ()):
            self.assertIs(Parted(found.world, row).holds(theory, one, other), False)

    def test_all_worlds_and_rows(self):
        theory = Theory(4)
        one, other = asks(Equation(X, 0), Equation(X, 1)), asks(Equation(X, 0), Equation(X * X, X))
        held = 0
        for sizes in ((2,), (4,), (2, 2), (4, 2), (3,), (8,), (2, 3)):
            for element in itertools.product(*[range(size) for size in sizes]):
                runs = [run_oracle.run(program, sizes, (element,))[1] for program in (one, other)]
                expected = runs[0] != runs[1] and World(*sizes).obeys(theory)
                self.assertIs(Parted(World(*sizes), (element,)).holds(theory, one, other), expected)
                held += expected
        self.assertGreater(held, 2)


class Refused(Case):
    def test_unlike_programs(self):
        made = [Program("f", names, [], outputs) for names in ([], ["x"], ["x", "y"]) for outputs in ([1], [1, 2])]
        large = Program("large", list("abcd"), [], [1])
        for theory in (Theory(4), NONE, OVER):
            for one, other in itertools.permutations(made + [large], 2):
                with self.assertRaises(Unlike) as caught:
                    compare(theory, one, other)
                self.assertIs(type(caught.exception), Unlike)

    def test_too_many_points(self):
        one, other = Program("one", list("abcd"), [], ["a"]), Program("other", list("abcd"), [], ["b"])
        for theory in (OVER, Theory(64)):
            self.refused(TooMany, 6000, compare, theory, one, other)
            self.refused(TooMany, 6000, compare, theory, one, one)
            self.refused(TooMany, 6000, Same(1).holds, theory, one, one)
            # A world and a row tell by themselves.
            size = theory.sizes[0]
            self.assertIs(Parted(World(size), ((0,), (1,), (0,), (0,))).holds(theory, one, other), True)

    def test_as_many_points_as_may_be(self):
        one, other = Program("one", list("abcd"), [], ["a"]), Program("other", list("dabc"), [], ["d"])
        third = Program("third", list("abcd"), [], ["b"])
        self.assertEqual([compare(NEAR, one, other).pairs, compare(NEAR, one, third).KIND], [1, "parted"])
        with mock.patch("selfpower.points.MOST_POINTS", 5857):
            self.refused(TooMany, 5857, compare, NEAR, one, other)


if __name__ == "__main__":
    unittest.main()
