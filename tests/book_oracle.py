"""A plain second book: lists that are copied ahead of each step; and commands by chance."""

import random

from selfpower.comparing import compare
from selfpower.equations import Equation
from selfpower.errors import Missing, NothingLeft, PowerError
from selfpower.fields import field_sizes
from selfpower.points import count_points
from selfpower.programs import Program
from selfpower.terms import Term
from selfpower.theories import Theory
from tests import term_oracle

WORDS = {"power": 2, "axiom": 2, "forgo": 2, "program": 2, "fact": 3, "drop": 2}


class Wrong(Exception):
    """What a book refuses: the code and what the error tells."""

    def __init__(self, code, *told):
        self.told = (code,) + told


def is_number(value):
    return isinstance(value, int) and not isinstance(value, bool)


def is_name(value):
    return isinstance(value, str) and 1 <= len(value) <= 8 and value.isascii() and value.isalpha() and value.islower() \
        and value not in term_oracle.RESERVED


def calls(program):
    """The names of the programs that a program calls, in the order of its lines."""
    lines = [line.split(" ") for line in program.text().split("\n")]
    return [words[words.index("call") + 1] for words in lines if "call" in words]


def called(steps):
    """The programs that steps call, in order."""
    found = []
    for step in steps:
        if step[0] == "call":
            found.append(step[2])
        for part in {"repeat": step[2:3], "test": step[3:]}.get(step[0], ()):
            found.extend(called(part))
    return found


class PlainBook:
    """What a book is: everything in lists, and a copy of it for each step."""

    def __init__(self, power=2):
        self.power, self.axioms, self.entries = power, [], []
        self.capacity = 20
        self.past, self.future = [], []
        self.kept, self.counted = [], 0

    def state(self):
        return [self.power, list(self.axioms), list(self.entries)]

    def go(self, state):
        self.power, self.axioms, self.entries = state[0], list(state[1]), list(state[2])

    def names(self, *kinds):
        return [name for kind, name, _ in self.entries if not kinds or kind in kinds]

    def entry(self, name):
        return [entry for entry in self.entries if entry[1] == name][0]

    def theory(self):
        return Theory(self.power, self.axioms)

    def page(self):
        lines = [f"power {self.power}"] + [f"axiom {axiom.text()}" for axiom in self.axioms]
        lines += [f"fact {name} {value.text()}" if kind == "fact" else value.text() for kind, name, value in self.entries]
        return "\n".join(lines) + "\n"

    def check(self, command):
        word = command[0] if type(command) is tuple and len(command) > 0 else None
        if type(word) is not str or word not in WORDS or len(command) != WORDS[word]:
            raise Wrong("InvalidCommand", word)

    def check_theory(self, power, axioms):
        for axiom in axioms:
            if sum(count_points(size, len(axiom.names())) for size in field_sizes(power)) > 6000:
                raise Wrong("TooMany", 6000)

    def obey(self, command):
        """Does one command on the lists."""
        word, value = command[0], command[1]
        if word == "power":
            if not is_number(value) or not 2 <= value <= 64:
                raise Wrong("InvalidPower", value)
            self.check_theory(value, self.axioms)
            self.power, self.kept = value, []
        elif word == "axiom":
            if type(value) is not Equation:
                raise Wrong("InvalidEquation", value)
            self.check_theory(self.power, self.axioms + [value])
            self.axioms, self.kept = self.axioms + [value], []
        elif word == "forgo":
            if not is_number(value) or value not in range(len(self.axioms)):
                raise Wrong("UnknownIndex", value)
            self.axioms, self.kept = self.axioms[:value] + self.axioms[value + 1:], []
        elif word == "drop":
            if type(value) is not str or value not in self.names():
                raise Wrong("UnknownName", value)
            for kind, name, entry in self.entries:
                if kind == "program" and value in calls(entry):
                    raise Wrong("InUse", name)
            self.entries = [entry for entry in self.entries if entry[1] != value]
            self.kept = [pair for pair in self.kept if value not in pair]
        else:
            self.add(command)

    def add(self, command):
        if command[0] == "program":
            program = command[1]
            if type(program) is not Program:
                raise Wrong("InvalidTerm", program)
            entry = ("program", program.name, program)
        else:
            _, name, equation = command
            if not is_name(name):
                raise Wrong("InvalidName", name)
            if type(equation) is not Equation:
                raise Wrong("InvalidEquation", equation)
            entry = ("fact", name, equation)
        if entry[1] in self.names():
            raise Wrong("DuplicateName", entry[1])
        if len(self.entries) >= self.capacity:
            raise Wrong("TooMany", self.capacity)
        if entry[0] == "program":
            for other in called(entry[2].steps()):
                if ("program", other.name, other) not in self.entries:
                    raise Wrong("UnknownName", other.name)
        self.entries = self.entries + [entry]

    def run(self, *commands):
        before, kept = self.state(), list(self.kept)
        for command in commands:
            self.check(command)
        try:
            for command in commands:
                self.obey(command)
        except Wrong:
            self.go(before)
            self.kept = kept
            raise
        self.past, self.future = self.past + [before], []

    def do(self, command):
        self.run(command)

    def tried(self, *commands):
        twin = self.twin()
        try:
            twin.run(*commands)
        except Wrong:
            return False
        return True

    def undo(self):
        if not self.past:
            raise Wrong("NothingLeft")
        self.future.append(self.state())
        self.go(self.past.pop())
        self.kept = []

    def redo(self):
        if not self.future:
            raise Wrong("NothingLeft")
        self.past.append(self.state())
        self.go(self.future.pop())
        self.kept = []

    def same(self, one, other):
        for name in (one, other):
            if type(name) is not str or name not in self.names("program"):
                raise Wrong("UnknownName", name)
        programs = [self.entry(name)[2] for name in (one, other)]
        if (one, other) not in self.kept:
            if len({(len(program.inputs()), len(program.outputs())) for program in programs}) == 2:
                raise Wrong("Unlike")
            if sum(count_points(size, len(programs[0].inputs())) for size in self.theory().sizes) > 6000:
                raise Wrong("TooMany", 6000)
            self.kept.append((one, other))
            self.counted += 1
        return compare(self.theory(), *programs).KIND

    def set_capacity(self, value):
        if not is_number(value) or not 1 <= value <= 20 or value < len(self.entries):
            raise Wrong("InvalidNumber", value)
        self.capacity = value

    def twin(self):
        other = PlainBook(self.power)
        other.go(self.state())
        other.capacity, other.counted, other.kept = self.capacity, self.counted, list(self.kept)
        other.past, other.future = [list(state) for state in self.past], [list(state) for state in self.future]
        return other


def told(call, *arguments, **named):
    """What a call of the package returns, or the code and what its error tells."""
    try:
        return call(*arguments, **named)
    except (PowerError, Missing, NothingLeft) as error:
        return (error.code,) + tuple(value for key, value in vars(error).items() if key != "code")


def expected(call, *arguments):
    """The same for a plain book."""
    try:
        return call(*arguments)
    except Wrong as wrong:
        return wrong.told


X, Y, A = Term.of("x"), Term.of("y"), Term.of("a")

NAMES = list("pqrstf")

TERMS = [X, X + 1, X * X, X ** 4, X ** 3, X * 0 + 1, -X, X + X, X ** 2 + X]

EQUATIONS = [Equation(X ** 4, X), Equation(X + X, 0), Equation(X, Y), Equation(1, 0), Equation(X * Y, Y * X), Equation(3, 0), Equation(A, 1),
             Equation(X + Y + A, Term.of("b")), Equation(X * X, 1), Equation(0, 0)]

ANY = [None, True, False, 0, -1, 7, "x", "no name", "", (), [], ("power", 3), [("power", 3)], X, ["p"], ("p",), [[1]], Equation(X, X)]

WRONG_COMMANDS = [None, True, 3, "power", "drop p", [], (), ["power", 3], ("power",), ("power", 3, 3), ("axiom",), ("forgo",), ("program",), ("fact", "f"),
                  ("fact", "f", 1, 2), ("drop",), ("drop", "p", "q"), ("nope", 1), ("Power", 3), (None, 1), (1, 2), ((), 1), (["power"], 3), (True,), ("",),
                  ("undo",), ("same", "p", "q"), [("power", 3)]]


class Chance:
    """Draws programs and commands for a book."""

    def __init__(self, seed):
        self.chance = random.Random(seed)

    def program(self, plain):
        """A program with one input, or none or two, that may call entries of a book, or programs of its own."""
        chance = self.chance
        name = chance.choice(NAMES)
        inputs = chance.choice([["x"], ["x"], ["x"], [], ["x", "y"]])
        if not inputs:
            return Program(name, [], [], [chance.randrange(4)])
        known = [entry for kind, _, entry in plain.entries if kind == "program" and len(entry.inputs()) == 1 and len(entry.outputs()) == 1]
        if chance.random() < 0.2:
            known = [Program(chance.choice(NAMES), ["x"], [], [chance.choice(TERMS)])]
        steps = []
        while chance.random() < 0.5:
            if known and chance.random() < 0.7:
                steps.append(("call", ["x"], chance.choice(known), [chance.choice(TERMS)]))
            else:
                steps.append(("set", "x", chance.choice(TERMS)))
        if steps and chance.random() < 0.3:
            steps = [("test", X, chance.choice([0, 1, X * X]), steps, [])]
        outputs = [chance.choice(TERMS)] + ([1] if chance.random() < 0.1 else [])
        try:
            return Program(name, inputs, steps, outputs)
        except PowerError:
            # Too many tests, by calls.
            return Program(name, inputs, [], outputs)

    def command(self, plain):
        """A command, mostly a right one."""
        chance = self.chance
        if chance.random() < 0.06:
            return chance.choice(WRONG_COMMANDS)
        word = chance.choice(["power", "axiom", "forgo", "program", "program", "program", "fact", "drop", "drop"])
        if chance.random() < 0.08:
            return (word,) + tuple(chance.choice(ANY) for _ in range(WORDS[word] - 1))
        if word == "power":
            return (word, chance.choice([2, 3, 4, 4, 7, 8, 9, 22, 61, 64]))
        if word == "axiom":
            return (word, chance.choice(EQUATIONS))
        if word == "forgo":
            return (word, chance.randrange(max(1, len(plain.axioms) + 1)))
        if word == "program":
            return (word, self.program(plain))
        if word == "fact":
            return (word, chance.choice(NAMES), chance.choice(EQUATIONS))
        return (word, chance.choice(NAMES))
