import itertools
import unittest

from selfpower import programs
from selfpower.equations import Equation
from selfpower.errors import DuplicateName, InvalidName, InvalidNumber, InvalidStep, InvalidTerm, TooMany
from selfpower.programs import Program
from selfpower.terms import Term
from selfpower.theories import Theory
from tests.checks import Case, NO_NAMES, NO_TERMS
from tests.oracle import NO_NUMBERS
from tests.term_oracle import RESERVED

X, Y = Term.of("x"), Term.of("y")

FLAT = Program("flat", ["a"], [], ["a"])
TWO = Program("two", ["a", "b"], [], [Term.of("b"), Term.of("a") + 1])
ONE_TEST = Program("tested", ["a"], [("test", "a", 0, [("set", "a", 1)], [])], ["a"])
NONE = Program("none", [], [], [7])
THREE = Program("three", [], [], [1, 2, 3])


def tests(many):
    """Steps with so many tests."""
    return [("test", "x", place, [], []) for place in range(many)]


class Example(unittest.TestCase):
    def test_the_example_of_the_document(self):
        x = Term.of("x")
        double = Program("double", ["x"], [("repeat", 2, [("set", "x", x + x)])], ["x"])
        user = Program.read("program user\ninputs y\nz = call double (y + 1)\nif z = 0\nz = y\nelse\nend\noutputs z ; 1",
                            double)
        self.assertEqual(
            [double.text(), user.tests(), user.is_flat(), user.steps()[1][0], user.inputs()],
            ["program double\ninputs x\nrepeat 2\nx = (x + x)\nend\noutputs x", 1, False, "test", ["y"]])


class Interface(Case):
    def test_parameters(self):
        self.has_methods(Program, {
            "__init__": "(self, name, inputs, steps, outputs)", "inputs": "(self)", "steps": "(self)", "outputs": "(self)",
            "tests": "(self)", "is_flat": "(self)", "text": "(self)", "read": "(text, *known)",
        })
        for name in ("__eq__", "__repr__"):
            self.assertIn(name, vars(Program))
        self.assertIsInstance(vars(Program)["name"], property)
        self.assertIsInstance(vars(Program)["read"], staticmethod)
        self.assertEqual(Program.__module__, programs.__name__)

    def test_calls_by_name(self):
        program = Program(outputs=["x"], steps=[], inputs=["x"], name="f")
        self.assertEqual(program, Program("f", ["x"], [], ["x"]))
        self.assertEqual(Program.read(text=program.text()), program)


class Made(Case):
    def test_inputs_steps_and_outputs(self):
        program = Program("f", ["x", "y"], [("set", "z", "x"), ("set", "x", -1), ("set", "y", X + 1)], ["z", -2, X * Y])
        self.assertEqual([program.name, program.inputs()], ["f", ["x", "y"]])
        self.assertEqual(program.steps(), [("set", "z", X), ("set", "x", Term.of(-1)), ("set", "y", X + 1)])
        self.assertEqual(program.outputs(), [Term.of("z"), Term.of(-2), X * Y])
        self.assertEqual([type(item) for item in program.outputs()], [Term] * 3)
        self.assertEqual([type(program.name), type(program.inputs()), type(program.steps()), type(program.outputs()),
                          type(program.tests())], [str, list, list, list, int])

    def test_all_steps_with_all_lists_as_tuples(self):
        given = [
            ("set", "s", 0),
            ("call", ["s", "t"], TWO, ["x", 5]),
            ("repeat", 10 ** 30, [("set", "s", "t"), ("repeat", 0, [("call", ["t"], FLAT, [-1])])]),
            ("test", "x", 1, [("set", "x", 2), ("test", X, Y, [], [("set", "s", "s")])], [("call", ["y"], ONE_TEST, ["y"])]),
        ]
        one, t = Term.of(1), Term.of("t")
        expected = [
            ("set", "s", Term.of(0)),
            ("call", ("s", "t"), TWO, (X, Term.of(5))),
            ("repeat", 10 ** 30, (("set", "s", t), ("repeat", 0, (("call", ("t",), FLAT, (-one,)),)))),
            ("test", X, one, (("set", "x", Term.of(2)), ("test", X, Y, (), (("set", "s", Term.of("s")),))),
             (("call", ("y",), ONE_TEST, (Y,)),)),
        ]
        program = Program("f", ["x", "y"], given, ["s"])
        self.assertEqual(program.steps(), expected)
        # Equal values may be of different kinds: their reprs tell them apart.
        self.assertEqual(repr(program.steps()), repr(expected))

    def test_tuples_in_place_of_lists(self):
        steps = [("call", ["s", "t"], TWO, ["x", 5]), ("repeat", 3, [("set", "s", "t")]),
                 ("test", "x", 1, [("set", "x", 2)], [("set", "x", 3)])]
        as_tuples = (("call", ("s", "t"), TWO, ("x", 5)), ("repeat", 3, (("set", "s", "t"),)),
                     ("test", "x", 1, (("set", "x", 2),), (("set", "x", 3),)))
        one, other = Program("f", ["x"], steps, ["s", "t"]), Program("f", ("x",), as_tuples, ("s", "t"))
        self.assertEqual(one, other)
        self.assertEqual(repr(one.steps()), repr(other.steps()))
        self.assertEqual([type(other.inputs()), type(other.steps()), type(other.outputs())], [list] * 3)

    def test_its_own_name_may_be_an_input(self):
        program = Program("x", ["x"], [("set", "x", X + 1)], ["x"])
        self.assertEqual([program.name, program.inputs(), program.text()],
                         ["x", ["x"], "program x\ninputs x\nx = (x + 1)\noutputs x"])

    def test_as_little_as_may_be(self):
        program = Program("f", [], [], [0])
        self.assertEqual([program.inputs(), program.steps(), program.outputs(), program.tests(), program.is_flat()],
                         [[], [], [Term.of(0)], 0, True])
        self.assertEqual(program.text(), "program f\ninputs\noutputs 0")

    def test_how_many_tests(self):
        for steps, many in (([], 0), (tests(1), 1), (tests(6), 6), ([("call", ["y"], ONE_TEST, ["x"])], 1),
                            ([("test", 1, 2, tests(2), [("test", 1, 2, tests(1), tests(1))])], 6),
                            ([("call", ["y"], ONE_TEST, ["x"])] * 3 + tests(2), 5),
                            ([("test", 1, 2, [("call", ["x"], ONE_TEST, ["x"])], [("call", ["x"], FLAT, ["x"])])], 2),
                            ([("repeat", 5, [("set", "x", 1)])], 0), ([("call", ["y"], FLAT, ["x"])], 0)):
            program = Program("f", ["x"], steps, ["x"])
            self.assertEqual(program.tests(), many)
            self.assertIs(program.is_flat(), many == 0)

    def test_tests_of_programs_that_are_called_by_called_ones(self):
        program = ONE_TEST
        for many in (1, 2, 3):
            program = Program("f", ["x"], [("call", ["x"], program, ["x"])] * (2 if many > 1 else 1), ["x"])
            self.assertEqual([program.tests(), program.is_flat()], [2 ** (many - 1), False])
        self.refused(TooMany, 6, Program, "f", ["x"], [("call", ["x"], program, ["x"])] * 2, ["x"])

    def test_later_changes_have_no_effect(self):
        inputs, names, terms, inner, deeper, outputs = ["x"], ["y"], ["x"], [("set", "y", 1)], [("set", "y", 2)], ["y"]
        steps = [("call", names, FLAT, terms), ("repeat", 2, inner), ("test", "x", "y", deeper, [])]
        program = Program("f", inputs, steps, outputs)
        text, shown = program.text(), repr(program.steps())
        for passed in (inputs, names, terms, inner, deeper, outputs, steps):
            passed.append("z")
            passed.append(None)
        program.inputs().append("z")
        program.steps().clear()
        program.outputs().append(X)
        self.assertEqual([program.text(), repr(program.steps())], [text, shown])
        self.assertEqual([program.inputs(), len(program.steps()), program.outputs()], [["x"], 3, [Y]])
        self.assertEqual(FLAT.text(), "program flat\ninputs a\noutputs a")

    def test_repr(self):
        self.assertEqual(repr(Program("f", ["x", "y"], [], ["x"])), "Program(f: 2 inputs, 1 outputs)")
        self.assertEqual(repr(Program("abcdefgh", [], [], [1] * 6)), "Program(abcdefgh: 0 inputs, 6 outputs)")
        self.assertEqual(repr(user_of(FLAT)), "Program(user: 1 inputs, 1 outputs)")


def user_of(called):
    return Program("user", ["x"], [("call", ["y"], called, ["x"])], ["y"])


class Equality(Case):
    def test_equal_texts(self):
        made = [
            lambda: Program("f", ["x"], [], ["x"]), lambda: Program("g", ["x"], [], ["x"]),
            lambda: Program("f", ["y"], [], ["y"]), lambda: Program("f", ["x"], [], [X, X]),
            lambda: Program("f", ["x", "y"], [], ["x"]), lambda: Program("f", ["y", "x"], [], ["x"]),
            lambda: Program("f", ["x"], [("set", "x", "x")], ["x"]), lambda: Program("f", ["x"], [("set", "y", X)], ["y"]),
            lambda: Program("f", ["x"], [("repeat", 1, [("set", "x", "x")])], ["x"]),
            lambda: Program("f", ["x"], [("repeat", 2, [("set", "x", "x")])], ["x"]),
            lambda: Program("f", ["x"], [("test", "x", 1, [("set", "x", "x")], [])], ["x"]),
            lambda: Program("f", ["x"], [("test", "x", 1, [], [("set", "x", "x")])], ["x"]),
            lambda: Program("f", [], [], [1]), lambda: Program("f", [], [], [2]), lambda: Program("f", [], [], [-1]),
        ]
        for at, one in enumerate(made):
            for place, other in enumerate(made):
                self.assertIs(one() == other(), at == place)
                self.assertIs(one() != other(), at != place)

    def test_equal_calls(self):
        # The texts of the users are equal, those of the called programs are not.
        called = [Program("f", ["a"], [], [out]) for out in ("a", 1, Term.of("a") + 1)]
        for one in range(3):
            for other in range(3):
                users = user_of(called[one]), user_of(called[other])
                self.assertEqual(users[0].text(), users[1].text())
                self.assertIs(users[0] == users[1], one == other)
                self.assertIs(user_of(users[0]) == user_of(users[1]), one == other)
        self.assertEqual(user_of(Program("f", ["a"], [], ["a"])), user_of(Program("f", ["a"], [], ["a"])))

    def test_each_call_counts(self):
        # Both called programs have one name, so the texts of the users are all equal.
        for inner in ([], [("call", ["a"], FLAT, ["a"])]):
            called = [Program("f", ["a"], inner, [out]) for out in ("a", 1)]
            users = [Program("user", ["x"], [("call", ["x"], program, ["x"]) for program in row], ["x"])
                     for row in itertools.product(called, repeat=3)]
            for one, first in enumerate(users):
                for other, second in enumerate(users):
                    self.assertEqual(first.text(), second.text())
                    self.assertIs(first == second, one == other)
                    self.assertIs(user_of(first) == user_of(second), one == other)

    def test_the_order_of_equal_names_counts(self):
        one, other = [Program("f", ["a"], [], [out]) for out in ("a", 1)]
        both = [Program("user", ["x"], [("call", ["y"], first, ["x"]), ("test", 1, 2, [], [("call", ["x"], second, ["x"])])],
                        ["y"]) for first in (one, other) for second in (one, other)]
        for at, first in enumerate(both):
            for place, second in enumerate(both):
                self.assertEqual(first.text(), second.text())
                self.assertIs(first == second, at == place)

    def test_programs_that_call_often(self):
        # Each one calls the one ahead of it twice, so the calls are more than can be followed one by one.
        def tower(out):
            program = Program("f", ["x"], [], [out])
            for _ in range(300):
                program = Program("f", ["x"], [("call", ["x"], program, ["x"]), ("call", ["x"], program, ["x"])], ["x"])
            return program
        self.assertTrue(tower("x") == tower(X))
        self.assertTrue(tower("x") != tower(1))
        self.assertTrue(tower(1).is_flat())

    def test_a_program_equals_nothing_else(self):
        for program in (FLAT, NONE, ONE_TEST):
            self.equals_nothing_of_another_kind(program, [program.text(), program.name, X, Theory(2), Equation(1, 1),
                                                          program.outputs(), program.steps()])


class WrongHeads(Case):
    def test_names(self):
        for value in NO_NAMES + RESERVED + [X, FLAT]:
            self.refused(InvalidName, value, Program, value, ["x"], [], ["x"])
            self.refused(InvalidName, value, Program, value, [value, "if"], [None], [None])
            self.refused(InvalidName, value, Program, "f", [value], [], [1])
            self.refused(InvalidName, value, Program, "f", ["x", "x", value, "if"], [None], [])
            self.refused(InvalidName, value, Program, "f", ["a", "b", "c", "d", "e", value], [], [1])

    def test_names_that_are_just_right(self):
        for name in ("a", "abcdefgh", "wheres", "fact"):
            self.assertEqual(Program(name, [name], [], [name]).inputs(), [name])

    def test_inputs_that_occur_earlier(self):
        for inputs, value in ((["x", "x"], "x"), (["x", "y", "x"], "x"), (["x", "y", "z", "y", "x"], "y"),
                              (["a", "b", "c", "d", "e", "c"], "c"), (["x"] * 200, "x")):
            self.refused(DuplicateName, value, Program, "f", inputs, [None], [None])
        self.assertEqual(Program("x", ["x", "y"], [], ["x"]).name, "x")

    def test_4_inputs_and_5(self):
        names = ["a", "b", "c", "d", "e", "f"]
        for many in range(5):
            self.assertEqual(Program("f", names[:many], [], [1]).inputs(), names[:many])
        for many in (5, 6):
            self.refused(TooMany, 4, Program, "f", names[:many], [None], [None])
            self.refused(TooMany, 4, Program, "f", tuple(names[:many]), [("set", "x", 1)], [])


class WrongOutputs(Case):
    def test_other_values(self):
        for value in NO_TERMS + RESERVED + [FLAT, Equation("x", 1), [X]]:
            self.refused(InvalidTerm, value, Program, "f", ["x"], [], [value])
            self.refused(InvalidTerm, value, Program, "f", ["x"], [], ["x", 1, X, value, None, "y"])
            self.refused(InvalidTerm, value, Program, "f", ["x"], [], ["x"] * 7 + [value])

    def test_names_that_are_not_set(self):
        for value in ("y", Y, X + Y, Term.where(1, 2, 3, "y"), Y ** 0, 0 * Y):
            self.refused(InvalidTerm, value, Program, "f", ["x"], [], [value])
            self.refused(InvalidTerm, value, Program, "f", ["x"], [("set", "z", 1)], ["x", "z", value, None])
            self.refused(InvalidTerm, value, Program, "y", ["x"], [("call", ["z"], FLAT, ["x"])], [value])
            self.assertEqual(Program("f", ["x"], [("set", "y", 1)], [value]).outputs(), [Term.of(value)])
            self.assertEqual(Program("f", ["x"], [("call", ["y", "x"], TWO, [1, 2])], [value]).outputs(), [Term.of(value)])

    def test_6_outputs_and_7(self):
        for many in range(1, 7):
            self.assertEqual(len(Program("f", ["x"], [], ["x"] * many).outputs()), many)
        for many in (0, 7, 8, 200):
            self.refused(InvalidNumber, many, Program, "f", ["x"], [], ["x"] * many)
            self.refused(InvalidNumber, many, Program, "f", ["x"], [("set", "x", 1)] * 61 + tests(7), ("x",) * many)


class WrongCounts(Case):
    def test_60_steps_and_61(self):
        for many in (59, 60):
            self.assertEqual(len(Program("f", ["x"], [("set", "x", X + 1)] * many, ["x"]).steps()), many)
        for many in (61, 62, 200):
            self.refused(TooMany, 60, Program, "f", ["x"], [("set", "x", X + 1)] * many, ["x"])

    def test_steps_within_others_count(self):
        put = ("set", "x", 1)
        for many in range(3):
            for steps, own in (([("repeat", 3, [put] * 20)] * 2 + [put] * (17 + many), 59 + many),
                               ([("test", 1, 2, [put] * 20, [put] * 30)] + [put] * (8 + many), 59 + many),
                               ([("test", 1, 2, [], [("repeat", 2, [("repeat", 1, [put] * 50)])])] + [put] * (6 + many),
                                59 + many),
                               ([("call", ["x"], FLAT, ["x"])] * (59 + many), 59 + many)):
                if own <= 60:
                    self.assertEqual(Program("f", ["x"], steps, ["x"]).inputs(), ["x"])
                else:
                    self.refused(TooMany, 60, Program, "f", ["x"], steps, ["x"])

    def test_steps_of_called_programs_do_not_count(self):
        long = Program("long", ["x"], [("set", "x", X + 1)] * 60, ["x"])
        self.assertEqual(len(Program("f", ["x"], [("call", ["x"], long, ["x"])] * 60, ["x"]).steps()), 60)

    def test_6_tests_and_7(self):
        self.assertEqual(Program("f", ["x"], tests(6), ["x"]).tests(), 6)
        for many in (7, 8, 60):
            self.refused(TooMany, 6, Program, "f", ["x"], tests(many), ["x"])

    def test_tests_of_calls_count(self):
        call = ("call", ["x"], ONE_TEST, ["x"])
        three = ("call", ["x"], Program("three", ["x"], tests(3), ["x"]), ["x"])
        for steps, many in (([call] * 6, 6), ([call] * 7, 7), (tests(5) + [call], 6), (tests(6) + [call], 7), ([three] * 2, 6),
                            ([three, three, call], 7), ([("test", 1, 2, [call] * 3, [call] * 2)], 6),
                            ([("test", 1, 2, [call] * 3, [call] * 3)], 7), ([("test", 1, 2, [], [three, three])], 7)):
            if many == 6:
                self.assertEqual(Program("f", ["x"], steps, ["x"]).tests(), 6)
            else:
                self.refused(TooMany, 6, Program, "f", ["x"], steps, ["x"])


class TwoErrors(Case):
    def test_the_order(self):
        wrong, long, tested, bad_out, no_out = [None], [("set", "x", 1)] * 61, tests(7), [None], []
        self.refused(InvalidName, "if", Program, "if", ["call"], wrong, no_out)
        self.refused(InvalidName, "call", Program, "f", ["x", "x", "y", "z", "a", "b", "call"], wrong, no_out)
        self.refused(DuplicateName, "x", Program, "f", ["x", "x", "y", "z", "a", "b"], wrong, no_out)
        self.refused(TooMany, 4, Program, "f", ["x", "y", "z", "a", "b"], wrong, no_out)
        self.refused(InvalidStep, (0,), Program, "f", ["x"], wrong, no_out)
        self.refused(InvalidStep, (61,), Program, "f", ["x"], long + wrong, bad_out)
        self.refused(InvalidStep, (7,), Program, "f", ["x"], tested + wrong, ["x"])
        self.refused(InvalidTerm, None, Program, "f", ["x"], long, bad_out * 7)
        self.refused(InvalidTerm, "y", Program, "f", ["x"], long + tested, ["x"] * 7 + ["y"])
        self.refused(InvalidNumber, 0, Program, "f", ["x"], long + tested, no_out)
        self.refused(InvalidNumber, 7, Program, "f", ["x"], tested, ["x"] * 7)
        self.refused(TooMany, 60, Program, "f", ["x"], tested + long, ["x"])
        self.refused(TooMany, 6, Program, "f", ["x"], long[:53] + tested, ["x"])

    def test_nothing_is_changed(self):
        inputs, inner = ["x"], [("set", "x", 1), None]
        steps, outputs = [("set", "y", 1), ("repeat", 2, inner)], ["y"]
        self.refused(InvalidStep, (1, 1), Program, "f", inputs, steps, outputs)
        self.assertEqual([inputs, steps, outputs, inner],
                         [["x"], [("set", "y", 1), ("repeat", 2, inner)], ["y"], [("set", "x", 1), None]])

    def test_any_value_is_a_wrong_step(self):
        for value in NO_NUMBERS + [0, 1, X, FLAT]:
            self.refused(InvalidStep, (0,), Program, "f", ["x"], [value], ["x"])


if __name__ == "__main__":
    unittest.main()
