import itertools
import unittest
from unittest import mock

from selfpower import ways as ways_file
from selfpower.errors import TooMany
from selfpower.programs import Program
from selfpower.terms import Term
from selfpower.theories import Theory
from selfpower.ways import Way, ways
from selfpower.worlds import World
from tests import run_oracle
from tests.checks import Case, NEAR, NONE, ODD, OVER
from tests.run_oracle import Maker

X, Y = Term.of("x"), Term.of("y")

# Theories, and numbers of inputs with which they have few points.
FEW = [(Theory(4), 1), (Theory(2), 2), (Theory(3), 1), (Theory(5), 1), (Theory(2), 3), (Theory(8), 1), (Theory(61), 0),
       (Theory(4), 2), (Theory(16), 1), (ODD, 0)]


def asked(*pairs):
    """A program of x that asks whether these two terms are equal."""
    return Program("asked", ["x"], [("test", one, other, [], []) for one, other in pairs], ["x"])


def answers(found):
    return [way.answers for way in found]


def sets_of_answers(theory, program):
    """A dict from the answers that runs have to the number of points alive: all sets of points are tried."""
    found = {}
    for chosen, (told, _) in run_oracle.all_runs(program, theory.sizes).items():
        found.setdefault(told, set()).update(chosen)
    return {told: len(points) for told, points in found.items()}


class Interface(Case):
    def test_what_there_is(self):
        for name in ("answers", "world", "row", "many"):
            self.assertIsInstance(vars(Way)[name], property)
        self.assertIn("__repr__", vars(Way))
        self.assertEqual([ways.__module__, Way.__module__], [ways_file.__name__] * 2)
        self.assertEqual(answers(ways(program=asked((X, 0)), theory=Theory(2))), [(True,), (False,)])

    def test_kinds(self):
        found = ways(Theory(4), asked((X, 0), (X, 1)))
        self.assertEqual([type(found), type(found[0]), type(found[0].answers), type(found[0].world), type(found[0].row),
                          type(found[0].many), type(found[0].row[0])], [list, Way, tuple, World, tuple, int, tuple])
        self.assertEqual({type(answer) for way in found for answer in way.answers}, {bool})

    def test_reprs(self):
        self.assertEqual([repr(way) for way in ways(Theory(2), asked((X, 0), (X, 1)))],
                         ["Way(True, False)", "Way(False, True)", "Way(False, False)"])
        self.assertEqual([repr(way) for way in ways(Theory(2), asked((X, 0)))], ["Way(True)", "Way(False)"])
        self.assertEqual([repr(way) for way in ways(Theory(2), asked())], ["Way()"])


class ByHand(Case):
    def test_without_tests(self):
        for theory, names in ((Theory(4), []), (Theory(4), ["x"]), (Theory(7), ["x", "y"]), (NEAR, ["a", "b", "c", "d"])):
            found = ways(theory, Program("f", names, [("repeat", 10 ** 30, [])], [5]))
            self.assertEqual([(way.answers, way.many) for way in found], [((), len(theory.points(len(names))))])
            self.assertEqual([len(found[0].world), len(found[0].row)], [1, len(names)])
            self.assertIs(found[0].world.obeys(theory), True)

    def test_ways_that_no_single_point_has(self):
        # No element of a field is 0 and 1, but one of a product is neither.
        found = ways(Theory(2), asked((X, 0), (X, 1)))
        self.assertEqual(answers(found), [(True, False), (False, True), (False, False)])
        self.assertEqual([way.many for way in found], [1, 1, 2])
        self.assertEqual([way.world.sizes for way in found], [(2,), (2,), (2, 2)])
        self.assertEqual(sorted(found[2].row[0]), [0, 1])

    def test_tests_that_always_hold_and_never(self):
        self.assertEqual([(way.answers, way.many) for way in ways(Theory(3), asked((X ** 3, X)))], [((True,), 5)])
        self.assertEqual([(way.answers, way.many) for way in ways(Theory(3), asked((X + 1, X)))], [((False,), 5)])
        # 2 is 0 in one of the fields, and 6 in both.
        self.assertEqual([(way.answers, way.many) for way in ways(Theory(3), asked((2, 0), (6, 0)))],
                         [((True, True), 2), ((False, True), 5)])

    def test_steps_of_the_answers(self):
        program = Program("f", ["x"], [("test", X, 0, [("set", "x", 1)], [("set", "x", X * X)]), ("test", X, 1, [], [])], ["x"])
        self.assertEqual(answers(ways(Theory(2), program)), [(True, True), (False, True), (False, False)])
        self.assertEqual(answers(ways(Theory(3), program)), [(True, True), (False, True), (False, False)])

    def test_theories_without_sizes(self):
        for program in (asked(), asked((X, 0)), asked((0, 0), (X, X)), Program("n", [], [], [1])):
            self.assertEqual(ways(NONE, program), [])

    def test_six_tests(self):
        pairs = [(X, 0), (X, 1), (X, 2), (X, 3), (X, 4), (X, 5)]
        found = ways(ODD, asked(*pairs))
        # An element of a field is one of these numbers or several, as 3 is 0 and so on.
        possible = answers(found)
        self.assertEqual(possible, sorted(possible, reverse=True))
        self.assertIn((False,) * 6, possible)
        self.assertIn((True, False, False, True, False, False), possible)
        for way in found:
            self.assertLessEqual(len(way.world), max(1, way.answers.count(False)))
            self.assertEqual(way.world.trace(asked(*pairs), *way.row)[0], way.answers)

    def test_as_many_ways_as_may_be(self):
        # Six names are not to be had, but four with 0 or 1, and two sums that are told by no other.
        program = Program("f", list("abcd"), [("test", name, 0, [], []) for name in "abcd"] + [
            ("test", "a", "b", [], []), ("test", "c", "d", [], [])], ["a"])
        found = ways(Theory(2), program)
        expected = [told for told in itertools.product([True, False], repeat=6)
                    if self.possible(told)]
        self.assertEqual(answers(found), expected)

    def possible(self, told):
        points = [row for row in itertools.product(range(2), repeat=4)]
        equal = [[row[0] == 0, row[1] == 0, row[2] == 0, row[3] == 0, row[0] == row[1], row[2] == row[3]] for row in points]
        alive = [flags for flags in equal if all(flag or not answer for flag, answer in zip(flags, told))]
        return bool(alive) and all(answer or not all(flags[place] for flags in alive) for place, answer in enumerate(told))


class ByTrying(Case):
    def check(self, theory, program):
        """The ways are those that some set of points has, and each one tells a run that goes it."""
        found = ways(theory, program)
        self.assertEqual({way.answers: way.many for way in found}, sets_of_answers(theory, program))
        self.assertEqual(answers(found), sorted(answers(found), key=lambda told: [not answer for answer in told]))
        self.assertEqual(len(set(answers(found))), len(found))
        for way in found:
            self.assertIs(way.world.obeys(theory), True)
            self.assertLessEqual(1, len(way.world))
            self.assertLessEqual(len(way.world), max(1, way.answers.count(False)))
            self.assertEqual(len(way.row), len(program.inputs()))
            self.assertEqual(way.world.trace(program, *way.row)[0], way.answers)
            self.assertEqual(run_oracle.run(program, way.world.sizes, way.row)[0], way.answers)
        return found

    def test_programs_by_chance(self):
        several = 0
        for seed in range(70):
            theory, many = FEW[seed % len(FEW)]
            maker = Maker(seed)
            known = [maker.flat("f", 1, 1), maker.program("h", 1, 1, 2), maker.program("k", 2, 1, 1)]
            found = self.check(theory, maker.program("p", many, 1, 6, known))
            several += any(way.answers.count(False) > 1 and len(way.world) > 1 for way in found)
        self.assertGreater(several, 6)

    def test_nested_tests(self):
        one = Program("one", ["a"], [("test", "a", 1, [("set", "a", 0)], [("test", "a", 0, [], [("set", "a", 1)])])], ["a"])
        for theory in (Theory(2), Theory(3), Theory(4), Theory(5)):
            for steps in ([("call", ["x"], one, [X + 1]), ("call", ["x"], one, ["x"])],
                          [("test", X * X, X, [("call", ["x"], one, ["x"])], [("call", ["y"], one, [X * 2]), ("test", Y, X, [], [])])],
                          [("test", X, 0, [], [("test", X, 1, [], [("test", X * X, 1, [], [("test", X ** 3, 1, [], [])])])])]):
                self.check(theory, Program("p", ["x"], [("set", "y", X + 1)] + steps, ["x"]))

    def test_programs_without_inputs(self):
        for theory in (Theory(61), Theory(31), Theory(2), ODD):
            self.check(theory, Program("p", [], [("test", 6, 0, [], []), ("test", 35, 0, [], []), ("test", 10, 1, [], [])], [1]))

    def test_the_run_may_be_done_later(self):
        way = ways(Theory(2), asked((X, 0), (X, 1)))[2]
        self.assertEqual([way.world, way.row, way.answers, way.many], [way.world, way.row, (False, False), 2])
        self.assertEqual(way.world * World(3), World(2, 2, 3))
        self.assertEqual(way.world.sizes, (2, 2))


class Refused(Case):
    def test_too_many_points(self):
        for theory, names in ((OVER, list("abcd")), (Theory(32), list("abc")), (Theory(64), list("abcd"))):
            for steps in ([], [("test", "a", "b", [], [])]):
                self.refused(TooMany, 6000, ways, theory, Program("p", names, steps, ["a"]))

    def test_as_many_as_may_be(self):
        program = Program("p", list("abcd"), [("test", "a", "b", [], []), ("test", "a", Term.of("b") + 1, [], [])], ["a"])
        found = ways(NEAR, program)
        self.assertEqual(answers(found), [(True, False), (False, True), (False, False)])
        self.assertEqual(found[2].many, 5858)
        with mock.patch("selfpower.points.MOST_POINTS", 5857):
            self.refused(TooMany, 5857, ways, NEAR, program)


if __name__ == "__main__":
    unittest.main()
