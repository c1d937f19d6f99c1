"""The errors of the package. Their messages do not show the values, which may be of any length."""


def kept(value):
    """A value of its own for an error, which later changes to a list that was passed leave as it is."""
    if isinstance(value, list):
        return [kept(item) for item in value]
    if isinstance(value, tuple):
        return tuple([kept(item) for item in value])
    return value


class PowerError(ValueError):
    """The base of the errors about what was passed; it is not raised itself."""

    def __init__(self, words):
        ValueError.__init__(self, words)
        self.code = self.__class__.__name__


class InvalidPower(PowerError):
    """A value that is no whole number from 2 to 64, where a power is asked for."""

    def __init__(self, value):
        PowerError.__init__(self, "no whole number from 2 to 64")
        self.value = kept(value)


class InvalidSize(PowerError):
    """A value that is no size, or not one of those that are asked for."""

    def __init__(self, value):
        PowerError.__init__(self, "no size that fits here")
        self.value = kept(value)


class InvalidElement(PowerError):
    """A value that is no element of the field or the world."""

    def __init__(self, value):
        PowerError.__init__(self, "no element")
        self.value = kept(value)


class InvalidName(PowerError):
    """A value that is no name."""

    def __init__(self, value):
        PowerError.__init__(self, "no name")
        self.value = kept(value)


class InvalidNumber(PowerError):
    """A value that is no number of those that are asked for."""

    def __init__(self, value):
        PowerError.__init__(self, "no number that fits here")
        self.value = kept(value)


class InvalidTerm(PowerError):
    """A value that does not stand for a term, or for one that fits."""

    def __init__(self, value):
        PowerError.__init__(self, "no term that fits here")
        self.value = kept(value)


class InvalidEquation(PowerError):
    """A value that is no equation."""

    def __init__(self, value):
        PowerError.__init__(self, "no equation")
        self.value = kept(value)


class InvalidStep(PowerError):
    """A wrong step of a program."""

    def __init__(self, path):
        PowerError.__init__(self, "a wrong step of a program")
        self.path = path


class InvalidText(PowerError):
    """A text that is wrong at a place."""

    def __init__(self, at):
        PowerError.__init__(self, "a wrong text")
        self.at = at


class InvalidCommand(PowerError):
    """A value that is no command of a book."""

    def __init__(self, word):
        PowerError.__init__(self, "no command of a book")
        self.word = kept(word)


class InvalidPage(PowerError):
    """A page that is wrong at a line."""

    def __init__(self, line):
        PowerError.__init__(self, "a wrong line of a page")
        self.line = line


class DuplicateName(PowerError):
    """A name that occurs earlier."""

    def __init__(self, value):
        PowerError.__init__(self, "a name that occurs earlier")
        self.value = kept(value)


class TooDeep(PowerError):
    """A term that is nested deeper than the limit."""

    def __init__(self, limit):
        PowerError.__init__(self, "nested too deep")
        self.limit = limit


class TooMany(PowerError):
    """More of something than the limit."""

    def __init__(self, limit):
        PowerError.__init__(self, "too many")
        self.limit = limit


class Unlike(PowerError):
    """Two objects that do not go together."""

    def __init__(self):
        PowerError.__init__(self, "these do not go together")


class Clash(PowerError):
    """A value that leaves no row of those still possible."""

    def __init__(self):
        PowerError.__init__(self, "no possible row has this value")


class InUse(PowerError):
    """An entry that another one calls."""

    def __init__(self, user):
        PowerError.__init__(self, "an entry that another one calls")
        self.user = user


class Missing(LookupError):
    """The base of the errors about what was looked up; it is not raised itself."""

    def __init__(self, words):
        LookupError.__init__(self, words)
        self.code = self.__class__.__name__


class UnknownName(Missing):
    """A name that is not known."""

    def __init__(self, value):
        Missing.__init__(self, "not known as a name")
        self.value = kept(value)


class UnknownIndex(Missing):
    """A value that is no index."""

    def __init__(self, value):
        Missing.__init__(self, "no index")
        self.value = kept(value)


class UnknownPoint(Missing):
    """A value that is no point of a table."""

    def __init__(self, value):
        Missing.__init__(self, "no point of the table")
        self.value = kept(value)


class NothingLeft(IndexError):
    """Nothing to undo or redo."""

    def __init__(self):
        IndexError.__init__(self, "nothing is left to undo or redo")
        self.code = "NothingLeft"
