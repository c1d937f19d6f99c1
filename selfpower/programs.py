"""Programs: steps that compute outputs from inputs."""

from selfpower.errors import DuplicateName, InvalidName, InvalidNumber, InvalidStep, InvalidTerm, TooMany
from selfpower.listings import read_listing
from selfpower.steps import CALL, MOST_NESTED, MOST_TIMES, REPEAT, SET, TEST
from selfpower.steps import called_by, count_tests, lines_of, names_set, spread, terms_text
from selfpower.terms import Term, is_name, is_term
from selfpower.values import is_row, is_whole

MOST_INPUTS = 4
MOST_OUTPUTS = 6
MOST_STEPS = 60
MOST_TESTS = 6
MOST_SET = 2

# How many items the tuple of a step has.
LENGTHS = {"set": 3, "call": 4, "repeat": 3, "test": 5}


def check_names(name, inputs):
    """Raises the error of the name and the inputs of a program, if they have one."""
    for value in [name] + list(inputs):
        if not is_name(value):
            raise InvalidName(value)
    for at, value in enumerate(inputs):
        if value in inputs[:at]:
            raise DuplicateName(value)
    if len(inputs) > MOST_INPUTS:
        raise TooMany(MOST_INPUTS)


def fits(value, known):
    """Whether any value stands for a term with no other names than these."""
    return is_term(value) and all([name in known for name in Term.of(value).names()])


def are_terms(values, known):
    """Whether any value is a list of values that stand for terms with no other names than these."""
    return is_row(values) and all([fits(value, known) for value in values])


def may_set(values, known, depth):
    """Whether any value is a list of different names that a step may set, if it is nested so deep."""
    if not is_row(values) or not all([is_name(value) for value in values]):
        return False
    if len(set(values)) < len(values):
        return False
    return depth == 1 or all([value in known for value in values])


def right_steps(steps, path, known, depth):
    """The tuple of the steps of a list, with Terms and tuples in them; raises InvalidStep for the first wrong one.

    The path is that of the list. The known names, a dict, are those set ahead: new ones are put into it.
    """
    return tuple([right_step(step, path + (at,), known, depth) for at, step in enumerate(steps)])


def right_step(step, path, known, depth):
    """A step, any value, as right_steps returns it."""
    if depth > MOST_NESTED or not isinstance(step, tuple) or not step or not isinstance(step[0], str):
        raise InvalidStep(path)
    if LENGTHS.get(step[0], 0) != len(step):
        raise InvalidStep(path)
    if step[0] == SET:
        return right_set(step, path, known, depth)
    if step[0] == CALL:
        return right_call(step, path, known, depth)
    if step[0] == REPEAT:
        return right_repeat(step, path, known, depth)
    return right_test(step, path, known, depth)


def right_set(step, path, known, depth):
    """The step that sets a name, as right_step."""
    _, name, value = step
    if not may_set([name], known, depth) or not fits(value, known):
        raise InvalidStep(path)
    known[name] = True
    return (SET, name, Term.of(value))


def right_call(step, path, known, depth):
    """The step that calls a program, as right_step."""
    _, names, program, values = step
    if not may_set(names, known, depth) or not isinstance(program, Program) or not are_terms(values, known):
        raise InvalidStep(path)
    if len(names) != len(program.outputs()) or len(values) != len(program.inputs()):
        raise InvalidStep(path)
    for name in names:
        known[name] = True
    return (CALL, tuple(names), program, tuple([Term.of(value) for value in values]))


def right_repeat(step, path, known, depth):
    """The step that repeats others, as right_step."""
    _, times, inner = step
    if not is_whole(times) or not 0 <= times <= MOST_TIMES or not is_row(inner):
        raise InvalidStep(path)
    steps = right_steps(inner, path, known, depth + 1)
    # This can be told only of right steps, so a wrong one in the repeat goes ahead of it.
    if count_tests(steps) > 0 or len(names_set(steps)) > MOST_SET:
        raise InvalidStep(path)
    return (REPEAT, times, steps)


def right_test(step, path, known, depth):
    """The step that does one of two lists of others, as right_step."""
    _, one, other, inner, others = step
    if not are_terms([one, other], known) or not is_row(inner) or not is_row(others):
        raise InvalidStep(path)
    steps = right_steps(inner, path + (0,), known, depth + 1)
    rest = right_steps(others, path + (1,), known, depth + 1)
    return (TEST, Term.of(one), Term.of(other), steps, rest)


def right_outputs(outputs, known):
    """The list of the Terms of the outputs."""
    for value in outputs:
        if not fits(value, known):
            raise InvalidTerm(value)
    if not 1 <= len(outputs) <= MOST_OUTPUTS:
        raise InvalidNumber(len(outputs))
    return [Term.of(value) for value in outputs]


def check_limits(steps):
    """Raises TooMany if a program with these steps has too many steps or tests."""
    if len(spread(steps)) > MOST_STEPS:
        raise TooMany(MOST_STEPS)
    if count_tests(steps) > MOST_TESTS:
        raise TooMany(MOST_TESTS)


def all_rows(text, programs):
    """What tells a program with a text that calls these programs, in order, from all others.

    It is a list of rows, one for each different program that is needed, itself the last one: its text, and the
    places of the rows of the programs that it calls. So comparing takes no longer if a program is called often.
    """
    places = {}
    own = []
    for program in programs:
        found = []
        for row in program.rows:
            row_text, calls = row
            moved = tuple([found[call] for call in calls])
            # In a long chain of calls no place changes: then the programs share their rows.
            found.append(places.setdefault(row if moved == calls else (row_text, moved), len(places)))
        own.append(found[-1])
    return list(places) + [(text, tuple(own))]


class Program:
    """A program: a name, inputs, steps and outputs."""

    def __init__(self, name, inputs, steps, outputs):
        check_names(name, inputs)
        known = {value: True for value in inputs}
        self._steps = right_steps(steps, (), known, 1)
        self._outputs = right_outputs(outputs, known)
        check_limits(self._steps)
        self._name = name
        self._inputs = list(inputs)
        self._tests = count_tests(self._steps)
        self.rows = all_rows(self.text(), called_by(self._steps))

    @staticmethod
    def read(text, *known):
        """The program with a text, where the known programs may be called by their names."""
        name, inputs, steps, outputs = read_listing(text, {program.name: program for program in known})
        return Program(name, inputs, steps, outputs)

    @property
    def name(self):
        """The name of the program."""
        return self._name

    def __eq__(self, other):
        return isinstance(other, Program) and self.rows == other.rows

    def __repr__(self):
        return f"Program({self._name}: {len(self._inputs)} inputs, {len(self._outputs)} outputs)"

    def inputs(self):
        """The list of the names of the inputs."""
        return list(self._inputs)

    def steps(self):
        """The list of the steps, in which all terms are Terms and all lists are tuples."""
        return list(self._steps)

    def outputs(self):
        """The list of the Terms of the outputs."""
        return list(self._outputs)

    def tests(self):
        """How many tests the program has, where each call counts with the tests of the called program."""
        return self._tests

    def is_flat(self):
        """Whether there are no tests, also in the programs that it calls."""
        return self._tests == 0

    def text(self):
        """The text of the program."""
        heads = [f"program {self._name}", " ".join(["inputs"] + self._inputs)]
        return "\n".join(heads + lines_of(self._steps) + [f"outputs {terms_text(self._outputs)}"])
