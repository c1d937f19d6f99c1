"""Mappings: what flat programs and repeats make of rows of elements of a field.

The steps of a program are prepared for runs. Terms are as they are, but a call of a flat program becomes ("call",
names, routine, terms), a repeat ("repeat", names, loop, terms), where the names are those that it sets, and a call of
a program with tests ("enter", names, program, terms).
"""

from selfpower.steps import CALL, REPEAT, SET, TEST, names_read, names_set
from selfpower.terms import Term

ENTER = "enter"

# So many repeats are done one after the other, more of them by leaps.
FEW_TIMES = 16

# Looking for all rows that a repeat can come to takes memory for each row with which it begins.
ROWS_AT_ONCE = 100

# What was found is kept for so many rows of a field, or a few more.
MOST_KEPT = 100000


def rows_of(columns, many):
    """The list of the rows, so many, that have these columns."""
    if not columns:
        return [()] * many
    return list(zip(*columns))


def named_columns(names, rows):
    """A dict from each name to the list of its elements in rows."""
    return {name: [row[place] for row in rows] for place, name in enumerate(names)}


def ends_of(ahead, times):
    """A dict from each row to the one that is so many steps ahead, for a dict from each row to the next one."""
    rows = list(ahead)
    places = {row: place for place, row in enumerate(rows)}
    leaps = [places[ahead[row]] for row in rows]
    ends = list(range(len(rows)))
    while times > 0:
        if times % 2 == 1:
            ends = [leaps[end] for end in ends]
        leaps = [leaps[leap] for leap in leaps]
        times = times // 2
    return {row: rows[end] for row, end in zip(rows, ends)}


def prepared(steps, routines):
    """The list of the steps of a program, prepared for runs.

    The dict routines has the routines of flat programs that are known already; new ones are put into it.
    """
    found = []
    for step in steps:
        if step[0] == CALL:
            found.append(prepared_call(step, routines))
        elif step[0] == REPEAT:
            found.append(prepared_repeat(step, routines))
        elif step[0] == TEST:
            found.append((TEST, step[1], step[2], prepared(step[3], routines), prepared(step[4], routines)))
        else:
            found.append(step)
    return found


def prepared_call(step, routines):
    """A call, prepared for runs."""
    _, names, program, terms = step
    if not program.is_flat():
        return (ENTER, names, program, terms)
    # A program that is called in many places, or by programs that are, has one routine: it is run once for each row.
    key = tuple(program.rows)
    if key not in routines:
        routines[key] = Routine(program, routines)
    return (CALL, names, routines[key], terms)


def prepared_repeat(step, routines):
    """A repeat, prepared for runs: the names that it sets go ahead of those that it only reads."""
    _, times, inner = step
    changed = names_set(inner)
    names = changed + [name for name in names_read(inner) if name not in changed]
    return (REPEAT, changed, Loop(names, prepared(inner, routines), times), [Term.of(name) for name in names])


def do_steps(steps, field, columns, many):
    """Does prepared steps without tests in a field, for so many rows of elements.

    The columns are a dict from each name to the list of its elements in these rows; the steps change this dict. The
    steps of called programs are done in the same loop, as programs may call each other in any depth.
    """
    waiting = steps[::-1]
    calls = []
    while waiting or calls:
        if not waiting:
            call, waiting, outer, outer_many = calls.pop()
            call.end(call.mapping.images_in(field, columns, many), outer)
            columns, many = outer, outer_many
            continue
        step = waiting.pop()
        if step[0] == SET:
            columns[step[1]] = step[2].column(field, columns, many)
            continue
        call = Call(step, field, columns, many)
        if step[0] == REPEAT:
            call.end(call.mapping.images_of(field, call.fresh), columns)
        elif not call.fresh:
            call.end([], columns)
        else:
            calls.append((call, waiting, columns, many))
            waiting, columns = call.mapping.begun(call.fresh)
            many = len(call.fresh)


class Call:
    """A prepared call or repeat that is being done: for which rows, and what is known of their images."""

    def __init__(self, step, field, columns, many):
        _, changed, mapping, terms = step
        self._changed = changed
        self._field = field
        self._rows = rows_of([term.column(field, columns, many) for term in terms], many)
        self._found = mapping.known(field, self._rows)
        self.mapping = mapping
        self.fresh = list({row: True for row in self._rows if row not in self._found})

    def end(self, images, columns):
        """Puts the images into the columns of the names that are set, with a list of those of the fresh rows."""
        fresh = {row: image for row, image in zip(self.fresh, images)}
        self.mapping.keep(self._field, fresh)
        for row in fresh:
            self._found[row] = fresh[row]
        for place, name in enumerate(self._changed):
            columns[name] = [self._found[given][place] for given in self._rows]


class Mapping:
    """What makes of each row of elements of a field its image, another one. Images are kept, as rows come again."""

    def __init__(self):
        self._kept = {}

    def known(self, field, rows):
        """A dict with those images of rows that are kept."""
        kept = self._kept.get(field.size, {})
        return {row: kept[row] for row in rows if row in kept}

    def keep(self, field, images):
        """Keeps the images in a dict."""
        kept = self._kept.setdefault(field.size, {})
        if len(kept) > MOST_KEPT:
            kept.clear()
        for row in images:
            kept[row] = images[row]


class Routine(Mapping):
    """A flat program: the image of a row of its inputs is the row of its outputs."""

    def __init__(self, program, routines):
        Mapping.__init__(self)
        self._program = program
        self._routines = routines
        self._steps = None

    def begun(self, rows):
        """The pair of the steps, from the last one to the first one, and of the columns for rows of inputs."""
        if self._steps is None:
            self._steps = prepared(self._program.steps(), self._routines)
        return self._steps[::-1], named_columns(self._program.inputs(), rows)

    def images_in(self, field, columns, many):
        """The list of the images in columns in which the steps are done, for so many rows."""
        return rows_of([term.column(field, columns, many) for term in self._program.outputs()], many)


class Loop(Mapping):
    """Steps that are done again and again, so many times, for names: a row and its image have an element for each."""

    def __init__(self, names, steps, times):
        Mapping.__init__(self)
        self._names = names
        self._steps = steps
        self._times = times

    def images_of(self, field, rows):
        """The list of the images of different rows."""
        found = {}
        waiting = rows
        while waiting:
            images = self._some_images(field, waiting[:ROWS_AT_ONCE])
            for row in waiting:
                if row in images:
                    found[row] = images[row]
            waiting = [other for other in waiting if other not in images]
            self.keep(field, images)
        return [found[start] for start in rows]

    def _some_images(self, field, rows):
        """A dict with the images of different rows, and perhaps of further ones."""
        if self._times > FEW_TIMES:
            return ends_of(self._ahead(field, rows), self._times)
        images = rows
        for _ in range(self._times):
            images = self._done_once(field, images)
        return {row: image for row, image in zip(rows, images)}

    def _ahead(self, field, rows):
        """A dict from each row to which the steps, done again and again, lead these rows, to the next one."""
        ahead = {}
        waiting = rows
        while waiting:
            images = self._done_once(field, waiting)
            for row, image in zip(waiting, images):
                ahead[row] = image
            waiting = list({following: True for following in images if following not in ahead})
        return ahead

    def _done_once(self, field, rows):
        """The list of what the steps, done once, make of rows."""
        columns = named_columns(self._names, rows)
        do_steps(self._steps, field, columns, len(rows))
        return rows_of([columns[name] for name in self._names], len(rows))
