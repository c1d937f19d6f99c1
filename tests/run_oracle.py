"""Programs once more, run step by step; and all sets of points tried one by one.

Worlds are lists of sizes here, of any length, and elements are tuples as in the document.
"""

import itertools
import random

from selfpower.fields import Field
from selfpower.programs import Program
from selfpower.terms import Term
from tests import oracle, term_oracle

FIELDS = {size: Field(size) for size in oracle.ALL_SIZES}


def value(term, sizes, known):
    """The value of a Term in a world, for a dict from names to elements: one field after the other."""
    return tuple(term.evaluate(FIELDS[size], {name: element[place] for name, element in known.items()})
                 for place, size in enumerate(sizes))


def run(program, sizes, row):
    """The answers of the tests and the outputs."""
    answers = []
    known = dict(zip(program.inputs(), row))
    do(program.steps(), sizes, known, answers)
    return tuple(answers), tuple(value(term, sizes, known) for term in program.outputs())


def do(steps, sizes, known, answers):
    for step in steps:
        if step[0] == "set":
            known[step[1]] = value(step[2], sizes, known)
        elif step[0] == "call":
            more, outputs = run(step[2], sizes, [value(term, sizes, known) for term in step[3]])
            answers.extend(more)
            known.update(zip(step[1], outputs))
        elif step[0] == "repeat":
            repeat(step[1], step[2], sizes, known)
        else:
            answer = value(step[1], sizes, known) == value(step[2], sizes, known)
            answers.append(answer)
            do(step[3] if answer else step[4], sizes, known, answers)


def repeat(times, steps, sizes, known):
    """Does the steps so many times, field by field; there it looks for the first state that comes again."""
    ends = []
    for place, size in enumerate(sizes):
        now = {name: (element[place],) for name, element in known.items()}
        states = []
        while now not in states and len(states) < times:
            states.append(dict(now))
            do(steps, [size], now, [])
        if len(states) < times:
            start = states.index(now)
            now = states[start + (times - start) % (len(states) - start)]
        ends.append(now)
    known.update({name: tuple(end[name][0] for end in ends) for name in known})


def points(sizes, many):
    """All points with these sizes, ascending."""
    return [(size, row) for size in sorted(sizes) for row in oracle.orbits(size, many)]


def subsets(items):
    """All sets of items, as tuples, but the empty one."""
    return itertools.chain.from_iterable(itertools.combinations(items, many) for many in range(1, len(items) + 1))


def world_row(chosen, many):
    """The sizes and the row of inputs with just these points."""
    return [size for size, _ in chosen], [tuple(row[place] for _, row in chosen) for place in range(many)]


def all_runs(program, sizes):
    """A dict from each set of points to the answers and outputs of a run with just these points."""
    many = len(program.inputs())
    return {chosen: run(program, *world_row(chosen, many)) for chosen in subsets(points(sizes, many))}


class Maker:
    """Makes programs by chance."""

    def __init__(self, seed):
        self.chance = random.Random(seed)

    def term(self, names, depth=3):
        """A term of these names and small numbers."""
        chance = self.chance
        kind = chance.choice(["name", "name", "name", "number", "-", "+", "*", "*", "**", "where"])
        if depth == 1 or kind in ("name", "number"):
            return Term.of(chance.choice(names) if names and kind != "number" else chance.randrange(4))
        if kind == "**":
            return self.term(names, depth - 1) ** chance.choice([0, 2, 3, 5, 10 ** 30])
        if kind == "where":
            return Term.where(*[self.term(names, depth - 1) for _ in range(4)])
        one, other = self.term(names, depth - 1), self.term(names, depth - 1)
        return {"-": one - other, "+": one + other, "*": one * other}[kind]

    def flat(self, name, many, outputs):
        """A program without tests."""
        names = list("abcd"[:many])
        return Program(name, names, self.steps(names, 0, 2, []), [self.term(names) for _ in range(outputs)])

    def program(self, name, many, outputs, tests, known=()):
        """A program with at most so many tests, which calls some of the known programs."""
        names = list("abcd"[:many])
        steps = [("set", "u", self.term(names)), ("set", "v", self.term(names))]
        while True:
            program = Program(name, names, steps + self.steps(names + ["u", "v"], tests, 4, known),
                              [self.term(names + ["u", "v"]) for _ in range(outputs)])
            if program.tests() <= tests:
                return program

    def steps(self, names, tests, depth, known):
        """Steps that set only names that are set already."""
        found = []
        for _ in range(self.chance.randrange(1, 4) if names else 0):
            kind = self.chance.choice(["set", "repeat", "test", "test", "call"] if depth > 1 else ["set"])
            if kind == "repeat":
                found.append(self.repeat(self.chance.sample(names, min(2, len(names))), names, depth))
            elif kind == "test" and tests:
                mine = self.chance.randrange(tests)
                found.append(("test", self.term(names, 2), self.term(names, 2), self.steps(names, mine, depth - 1, known),
                              self.steps(names, tests - 1 - mine, depth - 1, known)))
                tests = 0
            elif kind == "call" and known:
                called = self.chance.choice(known)
                if len(called.outputs()) <= len(names) and called.tests() <= tests:
                    tests -= called.tests()
                    found.append(("call", self.chance.sample(names, len(called.outputs())), called,
                                  [self.term(names, 2) for _ in called.inputs()]))
            else:
                found.append(("set", self.chance.choice(names), self.term(names)))
        return found

    def repeat(self, changed, names, depth):
        """A repeat that sets only these names."""
        steps = [("set", self.chance.choice(changed), self.term(names)) for _ in range(self.chance.randrange(1, 3))]
        if depth > 2 and self.chance.random() < 0.6:
            steps.insert(self.chance.randrange(len(steps) + 1), self.repeat(changed, names, depth - 1))
        return ("repeat", self.chance.choice([0, 1, 2, 3, 5, 16, 17, 18, 60, 10 ** 9, 10 ** 30 - 1, 10 ** 30]), steps)
