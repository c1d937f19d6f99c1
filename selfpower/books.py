"""Books: a theory, programs and facts, while they change."""

from selfpower.commands import FACT, PROGRAM, behind_command, check_command, kept_behind
from selfpower.comparing import compare
from selfpower.deriving import follows
from selfpower.equations import Equation
from selfpower.errors import InvalidNumber, Missing, NothingLeft, PowerError, UnknownName
from selfpower.programs import Program
from selfpower.solving import solve
from selfpower.theories import Theory
from selfpower.values import is_whole

MOST_ENTRIES = 20


def book_with(theory, entries):
    """A book with a theory and entries, and without steps."""
    book = Book()
    book._theory = theory
    book._entries = entries
    return book


class Book:
    """A book. Its entries are a dict from names to Programs and Equations, which is not changed but replaced."""

    MOST = 20

    def __init__(self, power=2, *, capacity=MOST_ENTRIES):
        self._theory = Theory(power)
        self._entries = {}
        self.set_capacity(capacity)
        self._busy = False
        # Pairs of a theory and entries: those to which undo and redo lead, the next one last.
        self._past = []
        self._future = []
        self._kept = {}
        self._counted = 0

    @property
    def theory(self):
        """The theory."""
        return self._theory

    @property
    def capacity(self):
        """The greatest number of entries."""
        return self._capacity

    @capacity.setter
    def capacity(self, value):
        self.set_capacity(value)

    @property
    def busy(self):
        """Whether commands are being done."""
        return self._busy

    @property
    def counted(self):
        """How many comparisons were computed."""
        return self._counted

    def __eq__(self, other):
        return isinstance(other, Book) and self._theory == other._theory and self._listed() == other._listed()

    def __len__(self):
        return len(self._entries)

    def __repr__(self):
        return f"Book({len(self._entries)} entries)"

    def __contains__(self, x):
        return isinstance(x, str) and x in self._entries

    def _listed(self):
        """The list of the pairs of the name of an entry and the entry, in order."""
        return list(self._entries.items())

    def set_capacity(self, value):
        """Changes the greatest number of entries."""
        if not is_whole(value) or not max(1, len(self._entries)) <= value <= MOST_ENTRIES:
            raise InvalidNumber(value)
        self._capacity = value

    def do(self, command):
        """Does a command as one step."""
        self.run(command)

    def run(self, *commands):
        """Does commands in order, all or none, as one step."""
        for command in commands:
            check_command(command)
        theory, entries, kept = self._theory, self._entries, self._kept
        self._busy = True
        try:
            for command in commands:
                theory, entries = behind_command(theory, entries, command, self._capacity)
                kept = kept_behind(kept, command)
        finally:
            self._busy = False
        self._past.append((self._theory, self._entries))
        self._future = []
        self._theory, self._entries, self._kept = theory, entries, kept

    def tried(self, *commands):
        """Whether run would raise no error."""
        try:
            self.twin().run(*commands)
        except (PowerError, Missing):
            return False
        return True

    def undo(self):
        """Takes the last step back."""
        self._step(self._past, self._future)

    def redo(self):
        """Does the step again that was taken back last."""
        self._step(self._future, self._past)

    def _step(self, source, target):
        """Goes to the last pair of one list; the present one is put at the end of another."""
        if not source:
            raise NothingLeft()
        target.append((self._theory, self._entries))
        self._theory, self._entries = source.pop()
        self._kept = {}

    def history(self):
        """The pair of the numbers of steps that can be undone and redone."""
        return len(self._past), len(self._future)

    def twin(self):
        """A book of its own that is as this one."""
        other = book_with(self._theory, self._entries)
        other._capacity = self._capacity
        other._past = list(self._past)
        other._future = list(self._future)
        other._kept = {pair: self._kept[pair] for pair in self._kept}
        other._counted = self._counted
        return other

    def names(self, *kinds):
        """The list of the names of the entries of some kinds, or of all, in order."""
        if not kinds:
            return list(self._entries)
        return [name for name in self._entries if self._kind_of(name) in kinds]

    def _kind_of(self, name):
        """The kind of the entry with a name."""
        return PROGRAM if isinstance(self._entries[name], Program) else FACT

    def program(self, name):
        """The program with a name."""
        if name not in self or self._kind_of(name) != PROGRAM:
            raise UnknownName(name)
        return self._entries[name]

    def fact(self, name):
        """The equation of the fact with a name."""
        if name not in self or self._kind_of(name) != FACT:
            raise UnknownName(name)
        return self._entries[name]

    def facts(self):
        """The list of the equations of all facts, in order."""
        return [entry for entry in self._entries.values() if isinstance(entry, Equation)]

    def same(self, one, other):
        """The comparison of two programs by their names."""
        first, second = self.program(one), self.program(other)
        if (one, other) not in self._kept:
            self._kept[(one, other)] = compare(self._theory, first, second)
            self._counted = self._counted + 1
        return self._kept[(one, other)]

    def kept(self):
        """The ascending list of the pairs of names whose comparisons are kept."""
        return sorted(self._kept)

    def follows(self, goal):
        """The answer whether a goal follows from all facts."""
        return follows(self._theory, self.facts(), goal)

    def solve(self, given, sought):
        """The solution of all facts for given and sought names."""
        return solve(self._theory, self.facts(), given, sought)
