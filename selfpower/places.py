"""Places: the points of many rows of elements of the fields of a theory."""

from selfpower.fields import lies_in
from selfpower.points import leadings


def ways_into(theory, size):
    """The list of the ways to lead fields into the field of a size of a theory, ascending by their sizes.

    A way is a pair of the size of such a field and the list of its leadings, each as a dict from where an element is
    led to this element.
    """
    field = theory.field(size)
    found = []
    for small in theory.sizes:
        if lies_in(small, size):
            led = leadings(field, theory.field(small))
            found.append((small, [{place: item for item, place in enumerate(leading)} for leading in led]))
    return found


def common_size(theory, one, other):
    """The least size of a theory in whose field two fields lie; None if there is none."""
    for size in theory.sizes:
        if lies_in(one, size) and lies_in(other, size):
            return size
    return None


class Places:
    """Finds points of rows. What is needed of the fields is computed once, so it is made for many rows."""

    def __init__(self, theory):
        self._ways = {size: ways_into(theory, size) for size in theory.sizes}

    def placed(self, size, row):
        """The point of a row of the field of a size, and a dict with the sources of the elements that come from it.

        It is a dict from where an element of the field of the point is led, as the row of the point is led to this
        row, to this element.
        """
        ways = self._ways[size]
        # The first field in which all items lie is that of the size that the row makes.
        at = 0
        while not all([item in ways[at][1][0] for item in row]):
            at = at + 1
        small, sources = ways[at]
        found = min([(tuple([source[item] for item in row]), turns) for turns, source in enumerate(sources)])
        return (small, found[0]), sources[found[1]]
