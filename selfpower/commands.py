"""Commands of books: what they make of a theory and of entries.

The entries are a dict from their names to Programs and, for facts, to Equations. It is never changed: commands make
new ones, as books keep those of earlier steps.
"""

from selfpower.equations import Equation
from selfpower.errors import DuplicateName, InUse, InvalidCommand, InvalidEquation, InvalidName, InvalidTerm, TooMany
from selfpower.errors import UnknownName
from selfpower.programs import Program
from selfpower.steps import called_by
from selfpower.terms import is_name
from selfpower.theories import Theory

POWER = "power"
AXIOM = "axiom"
FORGO = "forgo"
PROGRAM = "program"
FACT = "fact"
DROP = "drop"

# How many items the tuple of a command has.
LENGTHS = {"power": 2, "axiom": 2, "forgo": 2, "program": 2, "fact": 3, "drop": 2}


def check_command(command):
    """Raises InvalidCommand for any value that has not the word and the length of a command."""
    word = command[0] if isinstance(command, tuple) and command else None
    if not isinstance(word, str) or LENGTHS.get(word, 0) != len(command):
        raise InvalidCommand(word)


def behind_command(theory, entries, command, capacity):
    """The pair of the theory and the entries behind a command, with at most so many entries if it adds one."""
    word = command[0]
    if word == POWER:
        return Theory(command[1], theory.axioms()), entries
    if word == AXIOM:
        return theory.with_axiom(command[1]), entries
    if word == FORGO:
        return theory.without(command[1]), entries
    if word == PROGRAM:
        return theory, with_program(entries, command[1], capacity)
    if word == FACT:
        return theory, with_fact(entries, command[1], command[2], capacity)
    return theory, without_entry(entries, command[1])


def kept_behind(kept, command):
    """The dict of those kept answers, by pairs of names of programs, that a command does not drop."""
    if command[0] in (POWER, AXIOM, FORGO):
        return {}
    if command[0] == DROP:
        return {pair: kept[pair] for pair in kept if command[1] not in pair}
    return kept


def check_new(entries, name, capacity):
    """Raises the error of a further entry with a name, if it has one."""
    if name in entries:
        raise DuplicateName(name)
    if len(entries) >= capacity:
        raise TooMany(capacity)


def with_program(entries, program, capacity):
    """The entries with a program, any value, at the end."""
    if not isinstance(program, Program):
        raise InvalidTerm(program)
    check_new(entries, program.name, capacity)
    for called in called_by(program.steps()):
        if called.name not in entries or entries[called.name] != called:
            raise UnknownName(called.name)
    return {**entries, program.name: program}


def with_fact(entries, name, equation, capacity):
    """The entries with a fact, any values, at the end."""
    if not is_name(name):
        raise InvalidName(name)
    if not isinstance(equation, Equation):
        raise InvalidEquation(equation)
    check_new(entries, name, capacity)
    return {**entries, name: equation}


def without_entry(entries, name):
    """The entries without that with a name, any value."""
    if not isinstance(name, str) or name not in entries:
        raise UnknownName(name)
    for user in entries:
        if isinstance(entries[user], Program) and calls(entries[user], name):
            raise InUse(user)
    return {other: entries[other] for other in entries if other != name}


def calls(program, name):
    """Whether a program calls one with a name."""
    return name in [called.name for called in called_by(program.steps())]
