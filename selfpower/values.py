"""Questions about any value."""


def is_whole(value):
    """Whether any value is a whole number: True and False are none here."""
    return isinstance(value, int) and not isinstance(value, bool)
