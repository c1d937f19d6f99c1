"""Mappings: what flat programs and repeats make of rows of elements of a field.

The steps of a program are prepared for runs: a call of a flat program, and a repeat, become ("call", names, mapping,
terms), and a call of a program with tests becomes ("enter", names, program, terms).
"""

from selfpower.steps import CALL, REPEAT, SET, TEST, names_read, names_set
from selfpower.terms import Term

ENTER = "enter"

# So many repeats are done one after the other, more of them by leaps.
FEW_TIMES = 16

# Looking for all rows that a repeat can come to takes memory for each row with which it begins.
ROWS_AT_ONCE = 100

# What was found is kept for so many rows of a field, or a few more.
MOST_KEPT = 100000


def rows_of(columns, many):
    """The list of the rows, so many, that have these columns."""
    if not columns:
        return [()] * many
    return list(zip(*columns))


def ends_of(ahead, times):
    """A dict from each row to the one that is so many steps ahead, for a dict from each row to the next one."""
    rows = list(ahead)
    places = {row: place for place, row in enumerate(rows)}
    leaps = [places[ahead[row]] for row in rows]
    ends = list(range(len(rows)))
    while times > 0:
        if times % 2 == 1:
            ends = [leaps[end] for end in ends]
        leaps = [leaps[leap] for leap in leaps]
        times = times // 2
    return {row: rows[end] for row, end in zip(rows, ends)}


def prepared(steps, mappings):
    """The list of the steps of a program, prepared for runs.

    The dict mappings has the mappings of flat programs that are known already; new ones are put into it.
    """
    found = []
    for step in steps:
        if step[0] == CALL:
            found.append(prepared_call(step, mappings))
        elif step[0] == REPEAT:
            found.append(prepared_repeat(step, mappings))
        elif step[0] == TEST:
            found.append((TEST, step[1], step[2], prepared(step[3], mappings), prepared(step[4], mappings)))
        else:
            found.append(step)
    return found


def prepared_call(step, mappings):
    """A call, prepared for runs."""
    _, names, program, terms = step
    if not program.is_flat():
        return (ENTER, names, program, terms)
    # A program that is called in many places, or by programs that are, has one mapping: it is run once for each row.
    key = tuple(program.rows)
    if key not in mappings:
        mappings[key] = Mapping(program.inputs(), prepared(program.steps(), mappings), program.outputs(), 1)
    return (CALL, names, mappings[key], terms)


def prepared_repeat(step, mappings):
    """A repeat, prepared for runs: the names that it sets go ahead of those that it only reads."""
    _, times, inner = step
    changed = names_set(inner)
    names = changed + [name for name in names_read(inner) if name not in changed]
    terms = [Term.of(name) for name in names]
    return (CALL, changed, Mapping(names, prepared(inner, mappings), terms, times), terms)


def do_steps(steps, field, columns, many):
    """Does prepared steps without tests in a field, for so many rows of elements.

    The columns are a dict from each name to the list of its elements in these rows; the steps change this dict.
    """
    for step in steps:
        if step[0] == SET:
            columns[step[1]] = step[2].column(field, columns, many)
        else:
            _, names, mapping, terms = step
            images = mapping.images(field, rows_of([term.column(field, columns, many) for term in terms], many))
            for place, name in enumerate(names):
                columns[name] = [image[place] for image in images]


class Mapping:
    """What prepared steps without tests, done so many times, make of rows of elements of a field.

    Such a row has an element for each of the names. Its image has the values of the terms behind the steps. If the
    steps are done another number of times than once, the terms are the names.
    """

    def __init__(self, names, steps, terms, times):
        self._names = names
        self._steps = steps
        self._terms = terms
        self._times = times
        self._known = {}

    def images(self, field, rows):
        """The list of the images of a list of rows."""
        known = self._known.setdefault(field.size, {})
        found = {row: known[row] for row in rows if row in known}
        fresh = list({row: True for row in rows if row not in known})
        while fresh:
            images = self._images_of(field, fresh[:ROWS_AT_ONCE])
            for row in fresh:
                if row in images:
                    found[row] = images[row]
            fresh = [row for row in fresh if row not in images]
            if len(known) > MOST_KEPT:
                known.clear()
            known.update(images)
        return [found[row] for row in rows]

    def _images_of(self, field, rows):
        """A dict with the images of different rows, and perhaps of further ones."""
        if self._times > FEW_TIMES:
            return ends_of(self._ahead(field, rows), self._times)
        images = rows
        for _ in range(self._times):
            images = self._done_once(field, images)
        return {row: image for row, image in zip(rows, images)}

    def _ahead(self, field, rows):
        """A dict from each row to which the steps, done again and again, lead these rows, to the next one."""
        ahead = {}
        waiting = rows
        while waiting:
            images = self._done_once(field, waiting)
            for row, image in zip(waiting, images):
                ahead[row] = image
            waiting = list({image: True for image in images if image not in ahead})
        return ahead

    def _done_once(self, field, rows):
        """The list of what the steps, done once, make of rows."""
        columns = {name: [row[place] for row in rows] for place, name in enumerate(self._names)}
        do_steps(self._steps, field, columns, len(rows))
        return rows_of([term.column(field, columns, len(rows)) for term in self._terms], len(rows))
