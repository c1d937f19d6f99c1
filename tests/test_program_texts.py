import random
import unittest

from selfpower.errors import DuplicateName, InvalidNumber, InvalidStep, InvalidTerm, InvalidText, PowerError, TooMany
from selfpower.programs import Program
from selfpower.terms import Term
from tests import program_oracle, term_oracle
from tests.checks import Case
from tests.oracle import NO_NUMBERS
from tests.term_oracle import RESERVED
from tests.test_programs import FLAT, NONE, ONE_TEST, THREE, TWO
from tests.test_terms import deep, long

X = Term.of("x")

KNOWN = [FLAT, TWO, NONE, THREE, ONE_TEST]

HEAD = "program f\ninputs x y\n"

# Lines of steps that may stand wherever x and y are set.
LINES = ["x = y", "x = 1", "x = -1", "x = (x + y)", "x = where(x, y, 1, (y ** 3))", "x = call flat y", "x = call flat (x + 1)",
         "x y = call two x ; (y + 1)", "y x = call two -1 ; where(x, y, 1, 2)", "x = call none", "repeat 0\nend",
         "repeat 1" + "0" * 30 + "\nx = (x * x)\nend", "repeat 2\nrepeat 3\nx = 1\nend\ny = call flat x\nend",
         "if x = y\nelse\nend", "if (x + 1) = where(x, y, 1, 2)\nx = 1\ny = 2\nelse\nx = call tested 2\nend",
         "if 1 = 2\nif x = 1\nelse\nx = 1\nend\nelse\nrepeat 5\nend\nend"]

# Lines that cannot stand where a line of a step of the program may.
WRONG_LINES = [
    "", " ", "x", "x =", "x = ", "= x", " = x", "x=y", "x  = y", "x =  y", " x = y", "x = y ", "x = y = z", "x = y ; x", "x == y",
    "end", "else", "end ", "else ", "ends", "program g", "inputs", "inputs x", "outputs", "output x", "axiom x = y", "power 7",
    "if = x", "end = x", "else = x", "where = x", "x = where", "x = if", "X = y", "xx1 = y", "abcdefghi = y", "x y = y", "x y = 1",
    "x = 01", "x = " + "9" * 32, "x = (x ** 1" + "0" * 29 + "1)", "x = " + "-" * 60 + "y", "x = (x", "x = x + 1", "1 = x", "set x 1",
    "x = call", "x = call ", "x = call  flat y", "x = call flat  y", "x = call flat ", "x = call flat y ", "x = call flat y;x",
    "x = call flat y; x", "x = call flat y ;x", "x = call flat y ; ", "x = call flat  ; y", "x = call other y", "x = call f y",
    "x = call x y", "x = call Flat y", "x = call if y", "x = call flat(y)", "x = call flat, y", "call flat y", " = call flat y",
    "x = call flat y =", "x  y = call two x ; y", " x y = call two x ; y", "x y  = call two x ; y", "x, y = call two x ; y",
    "x if = call two x ; y", "x Y = call two x ; y", "x = call flat abcdefghi", "x = call flat 007", "x = calls flat y", "x = Call flat y",
    "x = call flat call flat y", "x = call flat y = y", "x = call flat " + "-" * 60 + "x", "x = call flat if", "x ; y = call two x ; y",
    "repeat", "repeat ", "repeat -1", "repeat +1", "repeat 01", "repeat 00", "repeat x", "repeat  2", "repeat 2 ", "repeat 2 3", " repeat 2",
    "repeat 1" + "0" * 29 + "1", "repeat 1" + "0" * 31, "repeat " + "9" * 31, "repeat " + "9" * 5000, "repeat 2.0", "repeat2", "repeats 2",
    "repeat = 2", "if", "if ", "if x", "if x =", "if x = ", "if  x = y", "if x  = y", "if x = y ", "if x=y", "if x = y = z", "if x = if",
    "if x = 01", "if x = " + "-" * 60 + "y", "If x = y", "if x == y", "if (x = y)", "if x ; y", "elif x = y", "x = y\t",
    "x = -" + long(40000).text(), "if x = (x + " + long(40000).text() + ")", "x = call flat -" + long(40000).text(),
]


def read(steps, *known, head=HEAD, tail="outputs x"):
    """The program with these lines of steps."""
    return Program.read(head + "".join(line + "\n" for line in steps) + tail, *(known or KNOWN))


class ThereAndBack(Case):
    def test_by_hand(self):
        program = Program("f", ["x", "y"], [
            ("set", "s", X + 1), ("call", ["s", "t"], TWO, ["x", -5]), ("call", ["s"], NONE, []),
            ("repeat", 10 ** 30, [("set", "s", "t"), ("repeat", 0, [("call", ["t"], FLAT, [Term.where("x", 1, 2, 3)])])]),
            ("test", "x", X ** 2, [("set", "x", 2), ("test", "x", "y", [], [("set", "s", "s")])], []),
        ], ["s", X + 1, -7])
        text = "\n".join([
            "program f", "inputs x y", "s = (x + 1)", "s t = call two x ; -5", "s = call none",
            "repeat 1" + "0" * 30, "s = t", "repeat 0", "t = call flat where(x, 1, 2, 3)", "end", "end",
            "if x = (x ** 2)", "x = 2", "if x = y", "else", "s = s", "end", "else", "end", "outputs s ; (x + 1) ; -7"])
        self.assertEqual(program.text(), text)
        self.assertEqual(Program.read(text, *KNOWN), program)
        self.assertEqual(repr(Program.read(text, *KNOWN).steps()), repr(program.steps()))

    def test_short_texts(self):
        for text in ("program f\ninputs\noutputs 1", "program x\ninputs x\noutputs x", "program abcdefgh\ninputs a b c d\noutputs a",
                     "program f\ninputs x\noutputs x ; x ; x ; x ; x ; x", "program f\ninputs x\noutputs (x + 1) ; where(x, 1, 2, 3)"):
            self.assertEqual(Program.read(text).text(), text)

    def test_each_line(self):
        for line in LINES:
            for steps in ([line], [line, line], ["x = 1", line, "y = x"], ["if x = y", line, "else", "end"],
                          ["if x = y", "else", "x = 1", line, "end"]):
                program = read(steps)
                self.assertEqual(program.text(), HEAD + "\n".join(steps) + "\noutputs x")
                self.assertEqual(Program.read(program.text(), *KNOWN), program)

    def test_made_programs(self):
        for seed in range(400):
            program = made_program(random.Random(seed))
            again = Program.read(program.text(), *KNOWN)
            self.assertEqual(again, program)
            self.assertEqual([again.text(), repr(again.steps()), again.tests()],
                             [program.text(), repr(program.steps()), program.tests()])

    def test_60_steps_6_tests_4_deep(self):
        for steps in (["x = 1"] * 60, ["if x = y\nelse\nend"] * 6, ["repeat 1"] * 4 + ["end"] * 4, ["repeat 1"] * 3 + ["x = 1"] + ["end"] * 3,
                      ["if x = y"] * 4 + ["else", "end"] * 4):
            self.assertEqual(read(steps).text(), HEAD + "\n".join(steps) + "\noutputs x")

    def test_deep_and_long_terms(self):
        program = Program("f", ["x"], [("set", "y", deep(60)), ("set", "y", long(40000))], [deep(60), long(40000)])
        self.assertEqual(Program.read(program.text()), program)


def made_program(chance):
    """A right program with the inputs x and y."""
    steps = made_steps(chance, chance.randrange(6), ["x", "y"], 1, True)
    return Program("f", ["x", "y"], steps, [made_term(chance) for _ in range(chance.randrange(1, 7))])


def made_term(chance):
    model = term_oracle.model_of(chance.random(), 3)
    return term_oracle.made(term_oracle.filled(model, {"z": "x", "abcdefgh": "y", "fact": 5}))


def made_steps(chance, many, names, depth, may_test):
    steps = []
    for _ in range(many):
        kind = chance.choice(["set", "call", "repeat", "test"] if depth < 4 else ["set", "call"])
        inner = made_steps(chance, chance.randrange(3), names, depth + 1, False) if depth < 4 else []
        if kind == "call":
            called = chance.choice([FLAT, TWO, NONE])
            put = ["x", "y"][:len(called.outputs())]
            steps.append(("call", put, called, [made_term(chance) for _ in called.inputs()]))
        elif kind == "repeat":
            steps.append(("repeat", chance.choice([0, 1, 7, 10 ** 30]), inner))
        elif kind == "test" and may_test:
            steps.append(("test", made_term(chance), made_term(chance), inner, made_steps(chance, 1, names, depth + 1, False)))
        else:
            steps.append(("set", chance.choice(names), made_term(chance)))
    return steps


class KnownPrograms(Case):
    def test_of_several_with_one_name_the_last_one(self):
        one, other = [Program("g", ["a"], [], [out]) for out in ("a", 1)]
        text = "program f\ninputs x\nx = call g x\noutputs x"
        for known, called in (([one], one), ([other], other), ([one, other], other), ([other, one], one),
                              ([other, one, FLAT, other], other), ([FLAT, one, TWO], one)):
            program = Program.read(text, *known)
            self.assertEqual(program.steps()[0][2], called)
            self.assertEqual(program, Program("f", ["x"], [("call", ["x"], called, ["x"])], ["x"]))

    def test_unknown_programs(self):
        text = "program f\ninputs x\nx = 1\nx = call g x\noutputs x"
        self.refused(InvalidText, 3, Program.read, text)
        self.refused(InvalidText, 3, Program.read, text, FLAT, TWO)
        self.refused(InvalidText, 2, Program.read, "program f\ninputs x\nx = call f x\noutputs x", FLAT)
        self.refused(InvalidText, 2, Program.read, "program f\ninputs x\nx = call flat x\noutputs x")

    def test_a_program_with_its_own_name_may_be_known(self):
        program = Program.read("program flat\ninputs x\nx = call flat x\noutputs (x + 1)", FLAT)
        self.assertEqual(program.steps()[0][2], FLAT)
        again = Program.read(program.text(), FLAT, program)
        self.assertEqual([again.text(), again.steps()[0][2] == program], [program.text(), True])
        self.assertIs(again == program, False)

    def test_programs_that_are_not_called_do_not_matter(self):
        text = "program f\ninputs x\noutputs x"
        self.assertEqual(Program.read(text, *KNOWN), Program.read(text))


class NoTexts(Case):
    def wrong(self, at, text, *known):
        self.refused(InvalidText, at, Program.read, text, *(known or KNOWN))

    def test_no_strings(self):
        for value in [value for value in NO_NUMBERS if not isinstance(value, str)] + [0, 1, X, FLAT, ["program f"]]:
            self.refused(InvalidText, 0, Program.read, value)
            self.refused(InvalidText, 0, Program.read, value, FLAT)

    def test_first_lines(self):
        for line in ["", " ", "program", "program ", "program f ", " program f", "program  f", "program f g", "program F", "program 1",
                     "program abcdefghi", "Program f", "programs f", "f", "program f1", "fact f x = y", "inputs x"] + [
                         "program " + word for word in RESERVED]:
            self.wrong(0, line)
            self.wrong(0, line + "\ninputs x\noutputs x")
            self.wrong(0, line + "\nwrong\nwrong")

    def test_lines_of_inputs(self):
        for line in ["", "input x", "inputs ", "inputs  x", "inputs x ", "inputs x  y", " inputs x", "inputs x, y", "inputs X", "inputs 1",
                     "inputs x 1", "inputs abcdefghi", "Inputs x", "inputsx", "outputs x", "x = 1", "inputs x = 1"] + [
                         "inputs x " + word for word in RESERVED]:
            self.wrong(1, "program f\n" + line)
            self.wrong(1, "program f\n" + line + "\noutputs x")
            self.wrong(1, "program f\n" + line + "\nwrong\nwrong")

    def test_lines_of_steps(self):
        for line in WRONG_LINES:
            self.wrong(2, HEAD + line)
            self.wrong(2, HEAD + line + "\noutputs x")
            self.wrong(4, HEAD + "x = 1\nx = call flat y\n" + line + "\nwrong\noutputs ?")
            self.wrong(4, HEAD + "if x = y\nx = 1\n" + (line if line != "else" else "end") + "\nelse\nend\noutputs x")
            self.wrong(4, HEAD + "if x = y\nelse\n" + (line if line != "end" else "else") + "\nend\noutputs x")
            self.wrong(3, HEAD + "repeat 2\n" + (line if line != "end" else "else") + "\nend\noutputs x")
            self.wrong(5, HEAD + "repeat 2\nrepeat 2\nend\n" + (line if line != "end" else "else") + "\nend\noutputs x")

    def test_outputs_within_other_steps(self):
        for ahead in ("repeat 2\n", "if x = y\n", "if x = y\nelse\n", "repeat 2\nx = 1\n"):
            at = 2 + ahead.count("\n")
            self.wrong(at, HEAD + ahead + "outputs x\nend\noutputs x")
            self.wrong(at, HEAD + ahead + "outputs x")

    def test_lines_of_outputs(self):
        for line in ["outputs", "outputs ", "outputs  x", "outputs x ", "outputs x;y", "outputs x; y", "outputs x ;y", "outputs x ; ",
                     "outputs  ; x", "outputs x y", "outputs x, y", "outputs x ;  y", "outputs x  ; y", "outputs ; x", "outputs x = y",
                     "outputs if", "outputs x ; where", "outputs 01", "outputs " + "-" * 60 + "x", "outputs -" + long(40000).text(),
                     "outputs abcdefghi", " outputs x", "Outputs x", "outputs x ; " + "9" * 32, "outputs (x ** 1" + "0" * 31 + ")"]:
            self.wrong(2, HEAD + line)
            self.wrong(3, HEAD + "x = 1\n" + line)
            self.wrong(2, HEAD + line + "\nwrong")

    def test_lines_behind_the_outputs(self):
        for line in ["", " ", "x = 1", "outputs x", "end", "program g", "wrong"]:
            self.wrong(3, HEAD + "outputs x\n" + line)
            self.wrong(4, HEAD + "x = 1\noutputs x\n" + line + "\nwrong")

    def test_lines_that_lack(self):
        text = HEAD + "x = 1\nrepeat 2\nx = y\nend\nif x = y\nx = 1\nelse\nx = 2\nend\noutputs x"
        lines = text.split("\n")
        self.assertEqual(Program.read(text).text(), text)
        for many in range(1, len(lines)):
            self.wrong(many, "\n".join(lines[:many]))
            # With a line feed there is a line more, which is empty and wrong in each place.
            self.wrong(many, "\n".join(lines[:many]) + "\n")
        self.wrong(len(lines), text + "\n")
        self.wrong(0, "")

    def looked_at(self, text):
        """Reads a text, whatever it is, and compares with another computation of the first wrong line."""
        wrong = program_oracle.first_wrong(text, [program.name for program in KNOWN])
        if wrong is not None:
            self.wrong(wrong, text)
            return
        try:
            self.assertEqual(Program.read(text, *KNOWN).text(), text)
        except PowerError as error:
            self.assertIn(type(error), (DuplicateName, InvalidNumber, InvalidStep, InvalidTerm, TooMany))

    def test_a_line_more_less_or_twice(self):
        text = HEAD + "x = 1\nrepeat 2\nx = y\nend\nif x = y\nx = call flat 1\nelse\nx = 2\nend\noutputs x"
        lines = text.split("\n")
        for at in range(len(lines) + 1):
            self.looked_at("\n".join(lines[:at] + lines[at + 1:]))
            for place in range(len(lines) + 1):
                self.looked_at("\n".join(lines[:at] + lines[place:place + 1] + lines[at:]))
                self.looked_at("\n".join(lines[:at] + lines[place:]))
        # A repeat and a test that lack their ends go on to the outputs, which cannot stand in them.
        self.wrong(12, text.replace("repeat 2\n", "repeat 2\nrepeat 2\n"))
        self.wrong(4, text.replace("repeat 2\n", ""))
        self.wrong(7, text.replace("if x = y\n", ""))
        self.wrong(9, text.replace("else\n", ""))

    def test_4_deep_and_5_deep(self):
        for line in LINES + WRONG_LINES:
            if line != "end":
                self.wrong(6, HEAD + "repeat 1\n" * 4 + line + "\n" + "end\n" * 4 + "outputs x")
            if line != "else":
                self.wrong(6, HEAD + "if x = y\n" * 4 + line + "\n" + "else\nend\n" * 4 + "outputs x")
        self.wrong(6, HEAD + "repeat 1\n" * 5 + "end\n" * 5 + "outputs x")
        self.wrong(7, HEAD + "if x = y\n" * 4 + "else\nx = 1\nend\n")

    def test_a_character_more_less_or_twice(self):
        text = "program f\ninputs x\nx = call flat x\nif x = 1\nelse\nx = 12\nend\nrepeat 3\nend\noutputs x ; 0"
        for at in range(len(text) + 1):
            self.looked_at(text[:at] + text[at + 1:])
            self.looked_at(text[:at] + text[at:at + 1] + text[at:])
            for sign in " x0=;-\n":
                self.looked_at(text[:at] + sign + text[at:])
                self.looked_at(text[:at] + sign + text[at + 1:])

    def test_made_programs_with_lines_that_are_mixed(self):
        others = [line for line in LINES + WRONG_LINES if len(line) < 100 and "---" not in line]
        for seed in range(400):
            chance = random.Random(seed)
            lines = made_program(chance).text().split("\n")
            for _ in range(5):
                at, place = chance.randrange(len(lines)), chance.randrange(len(lines))
                self.looked_at("\n".join(lines[:at] + lines[at + 1:]))
                self.looked_at("\n".join(lines[:at] + [lines[place]] + lines[at:]))
                self.looked_at("\n".join(lines[:at] + [chance.choice(others)] + lines[at:]))


class ThenAsTheConstructor(Case):
    def test_inputs(self):
        self.refused(DuplicateName, "x", Program.read, "program f\ninputs x y x\noutputs x")
        self.refused(DuplicateName, "x", Program.read, "program f\ninputs x a b c d x\nx = z\noutputs z")
        self.refused(TooMany, 4, Program.read, "program f\ninputs x a b c d\nx = z\noutputs z")

    def test_steps(self):
        for lines, path in ((["x = z"], (0,)), (["x = 1", "if z = 1", "else", "end"], (1,)), (["x = call flat x ; y"], (0,)),
                            (["x = call flat"], (0,)), (["x x = call two x ; y"], (0,)), (["x y = call flat x"], (0,)),
                            (["repeat 2", "x = 1", "z = 1", "end"], (0, 1)), (["if 1 = 2", "else", "z = 1", "end"], (0, 1, 0)),
                            (["repeat 2", "if 1 = 2", "else", "end", "end"], (0,)), (["repeat 2", "x = call tested x", "end"], (0,)),
                            (["x y z = call three", "repeat 1", "x y z = call three", "end"], (1,))):
            self.refused(InvalidStep, path, read, lines)

    def test_outputs(self):
        text = "program f\ninputs x\noutputs x ; "
        with self.assertRaises(InvalidTerm) as caught:
            Program.read(text + "(y + 1) ; z")
        self.assertEqual(caught.exception.value, Term.read("(y + 1)"))
        self.refused(InvalidNumber, 7, Program.read, text + " ; ".join(["x"] * 6))
        self.assertEqual(len(Program.read(text + " ; ".join(["x"] * 5)).outputs()), 6)

    def test_limits(self):
        self.refused(TooMany, 60, read, ["x = 1"] * 61)
        self.refused(TooMany, 60, read, ["x = 1"] * 59 + ["repeat 2", "x = 2", "end"])
        self.refused(TooMany, 6, read, ["if x = y", "else", "end"] * 7)
        self.refused(TooMany, 6, read, ["if x = y", "else", "end"] * 6 + ["x = call tested x"])

    def test_wrong_lines_go_ahead(self):
        self.refused(InvalidText, 3, Program.read, "program f\ninputs x x\nx = z\nwrong\noutputs x")
        self.refused(InvalidText, 3, Program.read, "program f\ninputs x x\nx = z\noutputs ?")
        self.refused(InvalidText, 4, Program.read, "program f\ninputs a b c d e\nx = z\noutputs x\n")
        self.refused(InvalidText, 63, read, ["x = 1"] * 61 + ["x"])


if __name__ == "__main__":
    unittest.main()
