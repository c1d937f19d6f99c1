"""Runs of programs, which stop at each test.

A run is done for many rows of inputs at once. They stand in lanes: a lane is a triple (field, many, columns) of a
field, how many rows of its elements there are, and the list of their columns, one for each input.
"""

from selfpower.mappings import ENTER, do_steps, prepared, rows_of
from selfpower.steps import TEST

LEAVE = "leave"


def started(program, lanes):
    """The run of a program on lanes, ahead of its first step."""
    routines = {}
    scope = []
    for _, _, columns in lanes:
        scope.append({name: columns[place] for place, name in enumerate(program.inputs())})
    return Run(program, lanes, [scope], prepared(program.steps(), routines)[::-1], routines)


class Run:
    """A run of a program on lanes.

    The scopes are those of the program and of the called ones in which the run is, the last one that of the steps to
    come. Each has a dict for each lane, from the names that are set to their columns. The steps that wait stand from
    the last one to the next one.
    """

    def __init__(self, program, lanes, scopes, waiting, routines):
        self._program = program
        self._lanes = lanes
        self._scopes = scopes
        self._waiting = waiting
        self._routines = routines
        self._asked = None

    def forked(self):
        """A run of its own that is as far as this one and waits for the same answer."""
        scopes = [[dict(columns) for columns in scope] for scope in self._scopes]
        fork = Run(self._program, self._lanes, scopes, list(self._waiting), self._routines)
        fork._asked = self._asked
        return fork

    def advance(self):
        """Goes on to the next test; returns whether there is one."""
        while self._waiting:
            step = self._waiting.pop()
            if step[0] == TEST:
                self._asked = step
                return True
            if step[0] == ENTER:
                self._enter(step)
            elif step[0] == LEAVE:
                self._leave(step)
            else:
                for place, lane in enumerate(self._lanes):
                    do_steps([step], lane[0], self._scopes[-1][place], lane[1])
        return False

    def flags(self):
        """The list that tells for each row whether the test that is asked holds there."""
        _, one, other, _, _ = self._asked
        return [row[0] == row[1] for row in self._computed([one, other])]

    def take(self, held):
        """Goes on to the first steps of the test that is asked if it held, otherwise to the others."""
        _, _, _, steps, others = self._asked
        chosen = steps if held else others
        self._waiting.extend(chosen[::-1])

    def outputs(self):
        """The list of the tuples of the outputs for all rows, when the run is at its end."""
        return self._computed(self._program.outputs())

    def _computed(self, terms):
        """The list of the tuples of the values of terms for all rows."""
        found = []
        for place, lane in enumerate(self._lanes):
            columns = self._scopes[-1][place]
            found.extend(rows_of([term.column(lane[0], columns, lane[1]) for term in terms], lane[1]))
        return found

    def _enter(self, step):
        """Begins the program that a step calls."""
        _, names, program, terms = step
        scope = []
        for place, lane in enumerate(self._lanes):
            columns = self._scopes[-1][place]
            found = [term.column(lane[0], columns, lane[1]) for term in terms]
            scope.append({name: found[at] for at, name in enumerate(program.inputs())})
        self._scopes.append(scope)
        self._waiting.append((LEAVE, names, program.outputs()))
        self._waiting.extend(prepared(program.steps(), self._routines)[::-1])

    def _leave(self, step):
        """Ends a called program: the names of the step that called it get its outputs."""
        _, names, terms = step
        scope = self._scopes.pop()
        for place, lane in enumerate(self._lanes):
            columns = self._scopes[-1][place]
            for name, term in zip(names, terms):
                columns[name] = term.column(lane[0], scope[place], lane[1])
