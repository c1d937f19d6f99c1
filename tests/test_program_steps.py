import unittest

from selfpower.equations import Equation
from selfpower.errors import InvalidStep
from selfpower.programs import Program
from selfpower.terms import Term
from tests.checks import Case, NO_NAMES, NO_TERMS
from tests.oracle import NO_NUMBERS
from tests.term_oracle import RESERVED
from tests.test_programs import FLAT, NONE, ONE_TEST, THREE, TWO

X, Y = Term.of("x"), Term.of("y")

PUT = ("set", "x", 1)

# A step that is right wherever x and y are set, of each kind.
RIGHT = [PUT, ("set", "x", X + Y), ("call", ["x"], FLAT, ["y"]), ("call", ("y", "x"), TWO, (1, -2)),
         ("call", ["x"], NONE, []), ("repeat", 3, [("set", "y", X)]), ("repeat", 0, []), ("repeat", 10 ** 30, ())]

RIGHT_TESTS = [("test", "x", 1, [], []), ("test", X, -1, [PUT], (PUT, PUT)), ("call", ["x"], ONE_TEST, ["y"])]

NO_LISTS = [value for value in NO_NUMBERS if not isinstance(value, (list, tuple))] + [0, 1, X, FLAT, {"x": 1}]

# Values that are no steps, whatever is set.
WRONG = [value for value in NO_NUMBERS] + [
    0, 1, X, FLAT, Equation("x", 1), "set", ("set",), ("set", "x"), ("set", "x", 1, 1), ["set", "x", 1], ("set", "x", 1, None),
    ("call",), ("call", ["x"], FLAT), ("call", ["x"], FLAT, ["x"], []), ["call", ["x"], FLAT, ["x"]], ("repeat",),
    ("repeat", 2), ("repeat", 2, [], []), ["repeat", 2, []], ("test",), ("test", 1, 2), ("test", 1, 2, []),
    ("test", 1, 2, [], [], []), ["test", 1, 2, [], []], ("Set", "x", 1), ("let", "x", 1), ("if", 1, 2, [], []), ("", "x", 1),
    (["set"], "x", 1), (("set",), "x", 1), (None, "x", 1), (True, "x", 1), (0, 1, 2), (X, "x", 1), ("set x 1",),
    ("sets", "x", 1), ("repeat ", 2, []), ("program", "x", 1), ("x", "set", 1),
    ("set", ["x"], 1), ("set", "x", ["x"]), ("set", X, 1), ("set", "x", "x", "x"), ("set", 1, "x"), ("set", "x", FLAT),
    ("set", ("x",), 1), ("set", "x", (1,)), ("set", "x", Equation("x", 1)),
]


class Single(Case):
    """Steps that are wrong by themselves, at each depth."""

    def wrong(self, step):
        """The step is wrong, at each of the places where one may stand; x and y are set, z is not."""
        tail = [None, PUT]
        for steps, path in (([step], (0,)), ([PUT, PUT, step] + tail, (2,)), ([("repeat", 2, [PUT, step] + tail)], (0, 1)),
                            ([PUT, ("test", "x", 1, [step] + tail, tail)], (1, 0, 0)),
                            ([("test", "x", 1, [PUT], [PUT, PUT, step])] + tail, (0, 1, 2)),
                            ([("repeat", 1, [("repeat", 2, [PUT, ("repeat", 3, [step])])])], (0, 0, 1, 0)),
                            ([("test", 1, 2, [("test", 1, 2, [], [("repeat", 3, [PUT, step])])], [])], (0, 0, 0, 1, 0, 1))):
            self.refused(InvalidStep, path, Program, "f", ["x", "y"], steps, ["x"])

    def right(self, step):
        """The step is right where a program may have it."""
        for steps in ([step], [PUT, step], [("test", "x", 1, [step], [PUT])], [("test", "x", 1, [PUT], [PUT, step])]):
            self.assertEqual(len(Program("f", ["x", "y"], steps, ["x"]).steps()), len(steps))

    def test_right_steps(self):
        for step in RIGHT + RIGHT_TESTS:
            self.right(step)
        for step in RIGHT:
            Program("f", ["x", "y"], [("repeat", 2, [step]), ("repeat", 3, (step, step))], ["x"])

    def test_other_values(self):
        for value in WRONG:
            self.wrong(value)

    def test_names_that_are_set(self):
        for value in NO_NAMES + RESERVED + [X, FLAT]:
            self.wrong(("set", value, 1))
            self.wrong(("call", [value], FLAT, [1]))
            self.wrong(("call", ["x", value], TWO, [1, 2]))
            self.wrong(("call", [value, "x"], TWO, [1, 2]))

    def test_terms(self):
        for value in NO_TERMS + RESERVED + [FLAT, Equation("x", 1), [X]]:
            self.wrong(("set", "x", value))
            self.wrong(("call", ["x"], FLAT, [value]))
            self.wrong(("call", ["x", "y"], TWO, [1, value]))
            self.wrong(("test", value, 1, [], []))
            self.wrong(("test", 1, value, [], []))

    def test_names_in_terms_that_are_not_set(self):
        for value in ("z", Term.of("z"), X + 0 * Term.of("z"), Term.where(1, 2, 3, "z"), Term.of("z") ** 0):
            self.wrong(("set", "x", value))
            self.wrong(("call", ["x"], FLAT, [value]))
            self.wrong(("call", ["x", "y"], TWO, [value, 1]))
            self.wrong(("test", value, 1, [], []))
            self.wrong(("test", 1, value, [], []))
            self.wrong(("test", 1, value, [None], [None]))

    def test_lists_of_calls(self):
        for value in NO_LISTS:
            self.wrong(("call", value, FLAT, [1]))
            self.wrong(("call", ["x"], FLAT, value))
            self.wrong(("call", ["x"], NONE, value))
        self.wrong(("call", "x", FLAT, ["x"]))
        self.wrong(("call", ["x"], FLAT, "x"))

    def test_names_of_a_call_are_different(self):
        self.wrong(("call", ["x", "x"], TWO, [1, 2]))
        self.wrong(("call", ("x", "y", "x"), THREE, []))

    def test_programs_that_are_called(self):
        for value in NO_NUMBERS + [0, 1, X, "flat", [FLAT], (FLAT,), Program, FLAT.text(), FLAT.name]:
            self.wrong(("call", ["x"], value, ["x"]))

    def test_how_many_names_and_terms(self):
        for names in ([], ["x"], ["x", "y"], ["x", "y", "z"], ["x", "y", "z", "a"]):
            for terms in ([], [1], [1, 2], [1, 2, 3]):
                for called, outs, ins in ((FLAT, 1, 1), (TWO, 2, 2), (NONE, 1, 0), (THREE, 3, 0)):
                    steps = [("call", names, called, terms)]
                    if (len(names), len(terms)) == (outs, ins):
                        Program("f", [], steps, names)
                    else:
                        self.refused(InvalidStep, (0,), Program, "f", [], steps, [1])

    def test_times(self):
        for value in NO_NUMBERS + [-1, -2, 10 ** 30 + 1, 10 ** 31, -10 ** 30, X, Term.of(2), [2], (2,)]:
            self.wrong(("repeat", value, []))
            self.wrong(("repeat", value, [None, ("set", "z", 1)]))
        for value in (0, 1, 2, 10 ** 29, 10 ** 30 - 1, 10 ** 30):
            self.assertEqual(Program("f", [], [("repeat", value, [])], [1]).steps(), [("repeat", value, ())])

    def test_lists_of_steps(self):
        for value in NO_LISTS:
            self.wrong(("repeat", 2, value))
            self.wrong(("test", 1, 2, value, []))
            self.wrong(("test", 1, 2, [], value))
            # A test goes ahead of the steps in it.
            self.wrong(("test", 1, 2, [None], value))


class Names(Case):
    def refuse(self, path, steps, inputs=("x",)):
        self.refused(InvalidStep, path, Program, "f", list(inputs), steps, [1])

    def test_names_are_set_ahead(self):
        Program("f", [], [("set", "a", 1), ("set", "b", "a"), ("set", "c", Term.read("(a + b)"))], ["c"])
        self.refuse((1,), [("set", "b", 1), ("set", "c", "a"), ("set", "a", 1)])
        self.refuse((0,), [("set", "a", "a")])
        self.refuse((0,), [("set", "a", Term.read("(a * 0)")), ("set", "a", 1)])
        self.refuse((0,), [("call", ["a"], FLAT, ["a"])])
        self.refuse((1,), [("call", ["a"], FLAT, ["x"]), ("call", ["b"], TWO, ["a", "c"])])
        Program("f", [], [("call", ["a", "b"], TWO, [1, 2]), ("set", "c", "b"), ("call", ["a"], FLAT, ["a"])], ["c"])

    def test_names_of_other_programs_are_not_set(self):
        self.refuse((1,), [("call", ["b"], FLAT, ["x"]), ("set", "b", "a")])
        self.refuse((0,), [("set", "f", "f")])
        self.refuse((1,), [("call", ["b"], FLAT, ["x"]), ("set", "b", "flat")])

    def test_steps_within_set_only_names_that_were_set_ahead(self):
        for inner in (("set", "a", 1), ("set", "x", 1), ("call", ["a"], FLAT, ["x"])):
            for around, path in ((lambda step: ("repeat", 2, [step]), (0,)), (lambda step: ("repeat", 2, [PUT, step]), (1,)),
                                 (lambda step: ("repeat", 0, [step]), (0,)),
                                 (lambda step: ("test", 1, 2, [step], []), (0, 0)),
                                 (lambda step: ("test", 1, 2, [], [step]), (1, 0)),
                                 (lambda step: ("repeat", 1, [("repeat", 1, [step])]), (0, 0)),
                                 (lambda step: ("test", 1, 2, [("repeat", 1, [PUT, step])], []), (0, 0, 1))):
                Program("f", ["x"], [("set", "a", 0), around(inner)], ["a"])
                Program("f", ["x", "a"], [around(inner)], ["a"])
                if inner[1] != "x":
                    self.refuse((0,) + path, [around(inner), ("set", "a", 1)])
                    self.refuse((1,) + path, [("set", "b", 1), around(inner)])

    def test_a_name_that_one_of_both_lists_sets_is_not_set_behind(self):
        self.refuse((0, 0, 0), [("test", 1, 2, [("set", "a", 1)], [("set", "a", 2)])])
        self.refuse((0, 0, 1), [("test", 1, 2, [PUT, ("call", ["x", "a"], TWO, [1, 2])], [])])

    def test_names_in_terms_of_repeats_and_tests(self):
        self.refuse((0, 0), [("repeat", 2, [("set", "x", "a")])])
        self.refuse((0, 1, 0), [("test", 1, 2, [], [("set", "x", "a")])])
        self.refuse((0, 0, 0), [("test", 1, 2, [("test", "a", 2, [None], [])], [])])


class Depth(Case):
    def nested(self, many, step, kind="repeat"):
        """Steps in which a step stands within so many others."""
        steps = [step]
        for _ in range(many):
            steps = [("repeat", 2, steps)] if kind == "repeat" else [("test", 1, 2, steps, [])]
        return steps

    def test_4_deep(self):
        for step in RIGHT:
            if step[0] != "repeat" or not step[2]:
                for kind in ("repeat", "test"):
                    Program("f", ["x", "y"], self.nested(3, step, kind), ["x"])
        for step in RIGHT_TESTS:
            if step[0] != "test" or not step[3]:
                Program("f", ["x", "y"], self.nested(3, step, "test"), ["x"])

    def test_5_deep(self):
        for step in RIGHT + RIGHT_TESTS + WRONG:
            self.refused(InvalidStep, (0, 0, 0, 0, 0), Program, "f", ["x", "y"], self.nested(4, step), ["x"])
            self.refused(InvalidStep, (0,) * 9, Program, "f", ["x", "y"], self.nested(4, step, "test"), ["x"])
        self.refused(InvalidStep, (0,) * 5, Program, "f", ["x"], self.nested(300, PUT), ["x"])

    def test_the_path_of_a_step_that_is_nested_too_deep(self):
        inner = [PUT, ("repeat", 2, [PUT, PUT, ("repeat", 2, [PUT])])]
        steps = [PUT, ("test", 1, 2, [], [PUT, ("test", 1, 2, inner, [])])]
        self.refused(InvalidStep, (1, 1, 1, 0, 1, 2, 0), Program, "f", ["x"], steps, ["x"])


class Repeats(Case):
    def refuse(self, path, steps):
        self.refused(InvalidStep, path, Program, "f", ["x", "y", "z"], steps, ["x"])

    def test_tests(self):
        for inner in ([("test", 1, 2, [], [])], [PUT, ("test", "x", "y", [PUT], [PUT])],
                      [("test", 1, 2, [], [("test", 1, 2, [], [])])]):
            self.refuse((1,), [PUT, ("repeat", 2, inner), None])
            self.refuse((0, 0), [("repeat", 2, [("repeat", 3, inner)])])
            self.refuse((0, 1, 0), [("test", 1, 2, [], [("repeat", 0, inner)])])
            self.refuse((0,), [("repeat", 0, [PUT, ("repeat", 1, [])] + inner)])

    def test_calls_of_programs_that_are_not_flat(self):
        user = Program("user", ["x"], [("call", ["x"], ONE_TEST, ["x"])], ["x"])
        for called in (ONE_TEST, user):
            self.refuse((0,), [("repeat", 2, [("call", ["x"], called, ["x"])]), None])
            self.refuse((1, 1), [PUT, ("repeat", 2, [PUT, ("repeat", 2, [PUT, ("call", ["x"], called, ["x"])])])])
        flat = Program("user", ["x"], [("call", ["x"], FLAT, ["x"])], ["x"])
        self.assertIs(Program("f", ["x"], [("repeat", 2, [("call", ["x"], flat, ["x"])])], ["x"]).is_flat(), True)

    def test_2_names_and_3(self):
        sets = {name: ("set", name, 1) for name in "xyz"}
        for inner, right in (
                ([sets["x"], sets["y"]], True), ([sets["x"], sets["y"], sets["z"]], False), ([sets["x"]] * 5 + [sets["z"]], True),
                ([sets["x"], sets["y"]] * 3, True), ([("call", ["x", "y"], TWO, [1, 2])], True),
                ([("call", ["x", "y", "z"], THREE, [])], False), ([("call", ["x", "y"], TWO, [1, 2]), sets["z"]], False),
                ([("call", ["x", "y"], TWO, [1, 2]), sets["x"]], True), ([sets["x"], ("repeat", 1, [sets["y"]])], True),
                ([("repeat", 1, [sets["x"]]), ("repeat", 1, [sets["y"]]), ("repeat", 1, [sets["z"]])], False),
                ([sets["x"], ("repeat", 1, [sets["y"], sets["z"]])], False),
                ([("call", ["x"], FLAT, ["z"]), ("call", ["y"], FLAT, ["z"]), ("call", ["z"], FLAT, ["z"])], False)):
            for times in (0, 1, 10 ** 30):
                if right:
                    Program("f", ["x", "y", "z"], [("repeat", times, inner), ("repeat", times, [sets["z"]])], ["x"])
                    Program("f", ["x", "y", "z"], [("test", 1, 2, [], [("repeat", times, inner), sets["z"]])], ["x"])
                else:
                    self.refuse((1,), [PUT, ("repeat", times, inner), None])
                    self.refuse((0, 0, 1), [("test", 1, 2, [PUT, ("repeat", times, inner)], [None]), None])

    def test_names_that_are_read_do_not_count(self):
        inner = [("set", "x", Term.read("((x + y) + z)")), ("set", "y", Term.read("(z + a)"))]
        self.assertEqual(len(Program("f", ["x", "y", "z", "a"], [("repeat", 2, inner)], ["x"]).steps()), 1)

    def test_names_that_called_programs_set_do_not_count(self):
        busy = Program("busy", ["a", "b"], [("set", "c", "a"), ("set", "d", "b"), ("set", "e", "c")], ["e", "d"])
        self.assertEqual(len(Program("f", ["x", "y"], [("repeat", 2, [("call", ["x", "y"], busy, ["x", "y"])])], ["x"]).steps()), 1)

    def test_a_wrong_step_in_a_repeat_goes_ahead_of_it(self):
        sets = [("set", name, 1) for name in "xyz"]
        test = ("test", 1, 2, [], [])
        call = ("call", ["x"], ONE_TEST, ["x"])
        for inner in (sets, [test], [call], sets + [test, call]):
            for wrong in (None, ("set", "x", "a"), ("set", "a", 1), ("repeat", -1, []), ("call", [], FLAT, [1])):
                self.refuse((0, len(inner)), [("repeat", 2, inner + [wrong])])
                self.refuse((0, 0), [("repeat", 2, [wrong] + inner)])
                self.refuse((0, len(inner), 0), [("repeat", 2, inner + [("repeat", 1, [wrong])])])
                self.refuse((0, 0, 0), [("repeat", 2, [("repeat", 1, [wrong])] + inner)])
                self.refuse((0, len(inner), 1, 0), [("repeat", 2, inner + [("test", 1, 2, [], [wrong])])])
            # A repeat in a repeat is one of the steps in it.
            self.refuse((0, 1), [("repeat", 2, [PUT, ("repeat", 3, inner), None])])
            self.refuse((0, 0), [("repeat", 2, [("repeat", 3, inner), PUT]), None])

    def test_a_repeat_goes_ahead_of_the_steps_in_it_otherwise(self):
        for times in (-1, None, 10 ** 30 + 1, True):
            self.refuse((0,), [("repeat", times, [None])])
            self.refuse((0, 0), [("repeat", 2, [("repeat", times, [("set", "a", 1)]), None])])
        self.refuse((0,), [("test", "a", 1, [None], [None])])
        self.refuse((0, 1, 0), [("test", 1, 1, [PUT], [None]), None])
        self.refuse((0, 0, 1), [("test", 1, 1, [PUT, ("set", "a", 1)], [None])])

    def test_a_repeat_goes_ahead_of_the_steps_behind_it(self):
        self.refuse((0,), [("repeat", 2, [("test", 1, 2, [], [])]), ("set", "x", "a"), None])
        self.refuse((0,), [("set", "x", "a"), ("repeat", 2, [("test", 1, 2, [], [])])])


if __name__ == "__main__":
    unittest.main()
