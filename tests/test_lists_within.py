"""Lists within programs (points 2 and 10), and lists, dicts and tables that are changed later."""

import unittest

from selfpower.deriving import Broken, Derived, follows
from selfpower.equations import Equation
from selfpower.middles import middle
from selfpower.programs import Program
from selfpower.solving import solve
from selfpower.tables import Table
from selfpower.telling import told_by
from selfpower.terms import Term
from selfpower.theories import Theory
from selfpower.worlds import World

X, Y = Term.of("x"), Term.of("y")

ADD = Program("add", ["a", "b"], [], [Term.of("a") + Term.of("b"), "a"])


def parts():
    """The inputs, steps and outputs of a program as lists, wherever the document lets them be lists."""
    steps = [
        ("set", "z", 1),
        ("call", ["x", "y"], ADD, ["y", X + 1]),
        ("repeat", 3, [("call", ["x", "z"], ADD, ["x", "z"]), ("repeat", 2, [("set", "x", X + Y)])]),
        ("test", X, "y", [("set", "x", 0), ("test", "x", 0, [("call", ["y", "z"], ADD, [1, 2])], [])], [("repeat", 2, [("set", "x", X * 2)])])]
    return ["x", "y"], steps, [X, "y", 3]


def as_tuples(value):
    """The same with tuples in the place of all lists."""
    if isinstance(value, (list, tuple)):
        return tuple(as_tuples(item) for item in value)
    return value


def all_lists(value):
    """All lists in a value, the inner ones first."""
    found = []
    if isinstance(value, (list, tuple)):
        for item in value:
            found.extend(all_lists(item))
        if isinstance(value, list):
            found.append(value)
    return found


def told(program):
    """All that a program tells of itself."""
    runs = [World(3, 4).trace(program, (0, 1), (2, 3)), World(2).trace(program, (1,), (0,)), World(5).run(program, (4,), (4,))]
    return [program.name, program.inputs(), repr(program.steps()), repr(program.outputs()), program.text(), program.tests(), program.is_flat(), runs]


class Programs(unittest.TestCase):
    def test_lists_and_tuples_tell_the_same(self):
        inputs, steps, outputs = parts()
        one, other = Program("p", inputs, steps, outputs), Program("p", as_tuples(inputs), as_tuples(steps), as_tuples(outputs))
        self.assertEqual(one, other)
        self.assertEqual(told(one), told(other))
        read = Program.read(one.text(), ADD)
        self.assertEqual(told(read), told(one))

    def test_the_steps_are_tuples(self):
        for made in (parts(), as_tuples(parts())):
            program = Program("p", *made)
            self.assertIs(type(program.steps()), list)
            self.assertEqual(all_lists(tuple(program.steps())), [])
            self.assertEqual(program.steps(), list(as_tuples(program.steps())))
            self.assertEqual(program.steps()[1], ("call", ("x", "y"), ADD, (Term.of("y"), X + 1)))
            self.assertEqual(program.steps()[2][1:], (3, (("call", ("x", "z"), ADD, (X, Term.of("z"))), ("repeat", 2, (("set", "x", X + Y),)))))

    def test_each_list_is_changed_after_it_was_passed(self):
        expected = told(Program("p", *parts()))
        for place in range(len(all_lists(parts()))):
            for change in (lambda row: row.clear(), lambda row: row.append(("set", "x", 5)), lambda row: row.insert(0, "w")):
                made = parts()
                program = Program("p", *made)
                change(all_lists(made)[place])
                self.assertEqual(told(program), expected)

    def test_nothing_passed_is_changed(self):
        made = parts()
        before = repr(made)
        program = Program("p", *made)
        told(program)
        self.assertEqual(repr(made), before)

    def test_lists_that_were_returned(self):
        program = Program("p", *parts())
        expected = told(program)
        program.inputs().clear()
        program.steps().clear()
        program.steps().append(("set", "x", 1))
        program.outputs().append(X)
        self.assertEqual(told(program), expected)

    def test_a_program_that_is_called(self):
        steps = [("set", "a", 1)]
        called = Program("c", ["a"], steps, ["a"])
        program = Program("p", ["x"], [("call", ["x"], called, ["x"])], ["x"])
        steps.append(("set", "a", 2))
        called.steps().clear()
        self.assertEqual([World(3).run(program, (0,)), program.steps()[0][2].text()], [((1,),), "program c\ninputs a\na = 1\noutputs a"])


class Answers(unittest.TestCase):
    def test_answers_and_general_solutions(self):
        theory, facts, given, sought = Theory(4), [Equation(X * X, Term.of("a"))], ["a"], ["x"]
        found = solve(theory, facts, given, sought)
        answer, general = found.answer(), found.general()
        rows = answer["x"].entries(), general["x"].entries()
        facts.append(Equation(0, 1))
        given.append("b")
        sought.clear()
        answer["x"].put((4, (2,)), 0)
        answer["y"] = general["x"]
        general["x"][(2, (0, 0))] = 1
        general.clear()
        self.assertEqual([found.answer()["x"].entries(), found.general()["x"].entries()], list(rows))
        self.assertEqual([list(found.answer()), list(found.general())], [["x"], ["x"]])

    def test_conditions(self):
        found = solve(Theory(3), [Equation(X * X, Term.of("a"))], ["a"], ["x"])
        found.condition.put((2, (0,)), 1)
        found.answer()["x"].put((2, (0,)), 1)
        self.assertEqual([found.condition.entries(), found.answer()["x"].entries()[0], found.point], [[0, 0, 0, 0, 1], 0, (3, (2,))])

    def test_what_breaks(self):
        given = {"x": (1, 0)}
        made = Broken(World(2, 2), given)
        given["x"] = (0, 0)
        given["y"] = (0, 0)
        made.given()["x"] = (0, 0)
        made.given().clear()
        self.assertEqual([made.given(), made.holds(Theory(2), [], Equation(X, 0))], [{"x": (1, 0)}, True])
        found = follows(Theory(2), [], Equation(X, 0))
        found.given().clear()
        self.assertEqual(list(found.given()), ["x"])

    def test_factors(self):
        theory, facts = Theory(3), [Equation(X, Y)]
        found = follows(theory, facts, Equation(X * X, Y * Y))
        before = found.factors()[0].entries()
        table = Table(theory, ["x", "y"], before)
        made = Derived([table])
        table.put((2, (0, 0)), 1)
        found.factors()[0].put((2, (0, 0)), 1)
        found.factors().clear()
        made.factors().append(table)
        self.assertEqual([found.factors()[0].entries(), [row.entries() for row in made.factors()]], [before, [before]])

    def test_told_and_middles(self):
        report = told_by(Theory(4), ["x"], [X ** 2], X)
        report.table.put((4, (2,)), 0)
        self.assertEqual(report.table.entries(), [0, 1, 3])
        found = middle(Theory(3), [Equation(X, 1)], Equation(X * X, 1))
        found.strongest.put((2, (0,)), 0)
        found.weakest[(2, (0,))] = 0
        self.assertEqual([found.strongest.entries(), found.weakest.entries()], [[1, 0, 1, 0, 1], [1, 0, 1, 0, 0]])


if __name__ == "__main__":
    unittest.main()
