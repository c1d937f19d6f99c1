"""Shapes: how often each size occurs in a world, and which worlds embed into which."""

from selfpower.errors import InvalidNumber, InvalidSize
from selfpower.fields import Field, is_size, lies_in
from selfpower.grids import agreements, columns_of
from selfpower.points import rows_behind
from selfpower.values import is_whole, listed

MOST_COUNT = 10 ** 30


def count_solutions(facts, sought, field):
    """How many rows of elements of a field, for the sought names, keep the facts."""
    rows = rows_behind((), field, len(sought))
    columns = columns_of(rows, len(sought))
    flags = agreements(facts, field, {name: columns[place] for place, name in enumerate(sought)}, len(rows))
    return len([flag for flag in flags if flag])


def totals(pairs):
    """A dict from each first item of pairs to the sum of the second items beside it."""
    found = {}
    for item, count in pairs:
        found[item] = found.get(item, 0) + count
    return found


def count_texts(counts):
    """The list of what is shown of the pairs of a size and its count."""
    return [f"{size}: {count}" for size, count in counts]


class Shape:
    """How often each size occurs in a world."""

    def __init__(self, counts):
        earlier = []
        for size, _ in counts:
            if not is_size(size) or size in earlier:
                raise InvalidSize(size)
            earlier.append(size)
        for _, count in counts:
            if not is_whole(count) or not 1 <= count <= MOST_COUNT:
                raise InvalidNumber(count)
        self._counts = {size: count for size, count in sorted(counts)}

    @staticmethod
    def of(world):
        """The shape of a world."""
        return Shape(list(totals([(size, 1) for size in world.sizes]).items()))

    def __add__(self, other):
        if not isinstance(other, Shape):
            return NotImplemented
        total = Shape([])
        # Sums may be greater than the counts that may be passed.
        total._counts = totals(sorted(self.counts() + other.counts()))
        return total

    def __eq__(self, other):
        return isinstance(other, Shape) and self._counts == other._counts

    def __repr__(self):
        return f"Shape({listed(count_texts(self.counts()))})"

    def counts(self):
        """The ascending list of the pairs of a size and how often it occurs."""
        return list(self._counts.items())

    def count(self, size):
        """How often a size occurs: 0 for any value that does not."""
        return self._counts[size] if is_size(size) and size in self._counts else 0

    def solutions(self, facts, sought):
        """The list of the triples of a size, how many rows for the sought names keep the facts there, and its count."""
        return [(size, count_solutions(facts, sought, Field(size)), count) for size, count in self._counts.items()]


def embed(one, other):
    """An Embedding if a world of one shape embeds into a world of another one, otherwise a Blocked."""
    for great, _ in other.counts():
        if not any([lies_in(size, great) for size, _ in one.counts()]):
            return Blocked("none", (great,))
    giving = Giving(one, other)
    for size, count in one.counts():
        few = giving.give(size, count)
        if few:
            return Blocked("few", tuple(few))
    return Embedding(giving.amounts())


class Giving:
    """Gives fields of one shape to those of another one, so that each of the first shape is used.

    If no field is free for the next one, fields that have got one already change it, along a shortest path: a list of
    pairs of a size and the great one that gets it, where each size but the first one leaves the great one of the pair
    ahead of it.
    """

    def __init__(self, one, other):
        self._free = {great: count for great, count in other.counts()}
        self._greats = {size: [great for great in self._free if lies_in(size, great)] for size, _ in one.counts()}
        self._given = {(size, great): 0 for size in self._greats for great in self._greats[size]}

    def give(self, size, count):
        """Gives so many fields of a size; if there are too few for them, returns the sizes that have no others."""
        while count > 0:
            path, reached = self._path(size)
            if not path:
                return reached
            count = count - self._change(path, count)
        return []

    def _path(self, start):
        """The path by which a field of a size can be given, and the ascending list of the sizes that were reached.

        The path is empty if there is none. Then all fields in which one of these sizes lies have got one of them.
        """
        paths = {start: []}
        waiting = [start]
        while waiting:
            size = waiting.pop(0)
            for great in self._greats[size]:
                path = paths[size] + [(size, great)]
                if self._free[great] > 0:
                    return path, sorted(paths)
                for user in self._users(great):
                    if user not in paths:
                        paths[user] = path
                        waiting.append(user)
        return [], sorted(paths)

    def _users(self, great):
        """The list of the sizes that fields of a great size have got."""
        return [size for size in self._greats if self._given.get((size, great), 0) > 0]

    def _change(self, path, count):
        """Gives along a path for up to so many fields; returns for how many."""
        left = [(path[place + 1][0], path[place][1]) for place in range(len(path) - 1)]
        _, last = path[-1]
        many = min([count, self._free[last]] + [self._given[pair] for pair in left])
        for pair in path:
            self._given[pair] = self._given[pair] + many
        for pair in left:
            self._given[pair] = self._given[pair] - many
        self._free[last] = self._free[last] - many
        return many

    def amounts(self):
        """The list of the triples of a size, a great one and an amount: what is free gets any field that lies in it."""
        rest = dict(self._free)
        found = []
        for size, great in self._given:
            amount = self._given[(size, great)] + rest[great]
            rest[great] = 0
            if amount > 0:
                found.append((size, great, amount))
        return found


class Embedding:
    """Which fields of the first shape the fields of the second one get."""

    def __init__(self, amounts):
        self._amounts = sorted(amounts)

    def __bool__(self):
        return True

    def amounts(self):
        """The ascending list of the triples of a size, a great one and how many fields of it get one of the size."""
        return list(self._amounts)

    def holds(self, one, other):
        """Whether it shows that a world of one shape embeds into a world of another one."""
        for size, great, amount in self._amounts:
            if amount < 1 or one.count(size) == 0 or other.count(great) == 0 or not lies_in(size, great):
                return False
        used = totals([(size, amount) for size, _, amount in self._amounts])
        if not all([used.get(size, 0) >= count for size, count in one.counts()]):
            return False
        return totals([(great, amount) for _, great, amount in self._amounts]) == totals(other.counts())


class Blocked:
    """Why a world of the first shape does not embed into one of the second one."""

    def __init__(self, kind, sizes):
        self._kind = kind
        self._sizes = tuple(sizes)

    @property
    def kind(self):
        """What blocks it: none, or few."""
        return self._kind

    @property
    def sizes(self):
        """The tuple of the sizes that block it."""
        return self._sizes

    def __bool__(self):
        return False

    def holds(self, one, other):
        """Whether it shows that no world of one shape embeds into a world of another one."""
        if self._kind == "none":
            return len(self._sizes) == 1 and self._has_none(one, other)
        if self._kind == "few":
            return self._has_few(one, other)
        return False

    def _has_none(self, one, other):
        """Whether no field of one shape lies in the fields of its size of the other one."""
        great = self._sizes[0]
        return other.count(great) > 0 and not any([lies_in(size, great) for size, _ in one.counts()])

    def _has_few(self, one, other):
        """Whether the other shape has too few fields for all those of these sizes."""
        if sorted(set(self._sizes)) != list(self._sizes) or not all([one.count(size) > 0 for size in self._sizes]):
            return False
        greats = [count for great, count in other.counts() if any([lies_in(size, great) for size in self._sizes])]
        return sum([one.count(size) for size in self._sizes]) > sum(greats)
