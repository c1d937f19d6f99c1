"""Questions about any value, and whole numbers in texts."""

DIGITS = "0123456789"
MOST_DIGITS = 31

# Python refuses to write very long numbers at once, and ranks of tables may be that long.
WRITTEN_AT_ONCE = 64
FIRST_TOO_LONG = 10 ** 64


def is_whole(value):
    """Whether any value is a whole number: True and False are none here."""
    return isinstance(value, int) and not isinstance(value, bool)


def is_row(value):
    """Whether any value is a list, or a tuple, which may be passed in its place."""
    return isinstance(value, (list, tuple))


def run_end(text, at, signs):
    """Behind which place of a text the first sign stands that is none of these, from a place on."""
    while at < len(text) and text[at] in signs:
        at = at + 1
    return at


def number_in(text):
    """The whole number that a text tells, or None if it is not written as numbers are."""
    if not 1 <= len(text) <= MOST_DIGITS or run_end(text, 0, DIGITS) < len(text):
        return None
    if text[0] == "0" and text != "0":
        return None
    return int(text)


def number_text(number):
    """The text of a whole number from 0 on, however large."""
    pieces = []
    while number >= FIRST_TOO_LONG:
        number, low = divmod(number, FIRST_TOO_LONG)
        pieces.append(str(low).zfill(WRITTEN_AT_ONCE))
    pieces.append(str(number))
    return "".join(pieces[::-1])


def listed(values):
    """The text of several values, with commas between."""
    return ", ".join([str(value) for value in values])
