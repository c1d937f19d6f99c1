import itertools
import random
import unittest

from selfpower.equations import Equation
from selfpower.errors import InvalidNumber, InvalidSize
from selfpower.shapes import Blocked, Embedding, Shape, embed
from selfpower.terms import Term
from selfpower.worlds import World
from tests import oracle, tell_oracle
from tests.checks import Case
from tests.oracle import NO_NUMBERS

X, Y = Term.of("x"), Term.of("y")

MOST = 10 ** 30

NO_SIZES = NO_NUMBERS + [0, 1, -2, 6, 10, 12, 65, 81, MOST]

NO_COUNTS = NO_NUMBERS + [0, -1, MOST + 1, 2 * MOST]


def drawn(seed, counts, most=6):
    """A pair of shapes by chance, mostly of fields that lie in each other, as lists of pairs."""
    chance = random.Random(seed)
    pool = chance.choice([[2, 4, 8, 16, 32, 64], [2, 4, 8, 64, 3, 9, 27], [2, 4, 16, 3, 9, 5, 25, 7, 49], [2, 4, 8, 64]])

    def shape():
        return [(size, chance.choice(counts)) for size in chance.sample(pool, chance.randint(1, min(most, len(pool))))]
    return shape(), shape()


def is_possible(one, other):
    """Whether fields can be given, by counting: all sets of sizes have enough fields, and each field gets one."""
    if not all(any(oracle.lies_in(size, great) for size, _ in one) for great, _ in other):
        return False
    for many in range(1, len(one) + 1):
        for chosen in itertools.combinations(one, many):
            greats = [count for great, count in other if any(oracle.lies_in(size, great) for size, _ in chosen)]
            if sum(count for _, count in chosen) > sum(greats):
                return False
    return True


class Shapes63(Case):
    def test_counts(self):
        shape = Shape([(8, 3), (2, 1), (61, MOST)])
        self.assertEqual(shape.counts(), [(2, 1), (8, 3), (61, MOST)])
        self.assertEqual([shape.count(size) for size in (2, 4, 8, 61)], [1, 0, 3, MOST])
        self.assertEqual([type(pair) for pair in shape.counts()], [tuple] * 3)
        for value in NO_NUMBERS + [0, 1, -2, 6, 3, 64, MOST, shape, X]:
            self.assertEqual(shape.count(value), 0)
        self.assertEqual([Shape([]).counts(), Shape(()).count(2)], [[], 0])
        self.assertEqual(Shape(((4, 1),)).counts(), [(4, 1)])
        for size in oracle.ALL_SIZES:
            self.assertEqual(Shape([(size, 5)]).counts(), [(size, 5)])

    def test_repr(self):
        self.assertEqual([repr(Shape([(4, 1), (2, 3)])), repr(Shape([(64, MOST)])), repr(Shape([]))],
                         ["Shape(2: 3, 4: 1)", f"Shape(64: {MOST})", "Shape()"])

    def test_equal(self):
        self.assertEqual(Shape([(2, 3), (4, 1)]), Shape([(4, 1), (2, 3)]))
        self.assertNotEqual(Shape([(2, 3), (4, 1)]), Shape([(4, 3), (2, 1)]))
        self.assertNotEqual(Shape([(2, 3)]), Shape([(2, 3), (4, 1)]))
        self.assertEqual(Shape([]), Shape([]))
        self.equals_nothing_of_another_kind(Shape([(2, 3)]), [[(2, 3)], {2: 3}, World(2, 2, 2), embed(Shape([]), Shape([]))])
        self.equals_nothing_of_another_kind(Shape([]), [{}, World(2)])

    def test_sums(self):
        one, other = Shape([(2, 2), (4, 1)]), Shape([(4, 1), (8, 10 ** 20)])
        self.assertEqual((one + other).counts(), [(2, 2), (4, 2), (8, 10 ** 20)])
        self.assertEqual(one + other, other + one)
        self.assertEqual([one, other], [Shape([(2, 2), (4, 1)]), Shape([(4, 1), (8, 10 ** 20)])])
        self.assertEqual([one + Shape([]), Shape([]) + one, Shape([]) + Shape([])], [one, one, Shape([])])
        great = Shape([(3, MOST)])
        total = great + great + great
        self.assertEqual([total.counts(), total.count(3), repr(total), total == great], [[(3, 3 * MOST)], 3 * MOST, f"Shape(3: {3 * MOST})", False])
        self.assertEqual(total, great + (great + great))
        self.assertEqual(total.solutions([], ["x"]), [(3, 3, 3 * MOST)])
        # Counts that are greater cannot be passed, though they were returned.
        self.refused(InvalidNumber, 3 * MOST, Shape, total.counts())
        for value in (None, 1, "x", [(2, 1)]):
            with self.assertRaises(TypeError):
                great + value

    def test_of_worlds(self):
        for sizes in ((2,), (4, 2, 4), (64,) * 16, (3, 9, 27, 3, 3), (61, 2)):
            expected = [(size, sizes.count(size)) for size in sorted(set(sizes))]
            self.assertEqual(Shape.of(World(*sizes)).counts(), expected)
            self.assertEqual(Shape.of(world=World(*sizes)), Shape(expected))

    def test_solutions(self):
        shape = Shape([(4, 7), (2, 1), (3, MOST), (9, 2)])
        for facts, sought in (([], []), ([], ["x"]), ([], ["y", "x"]), ([Equation(X * X, X)], ["x"]), ([Equation(X * X, X)], ["x", "y"]),
                              ([Equation(X * Y, 1)], ["y", "x"]), ([Equation(X * Y, 1), Equation(X + Y, 0)], ["x", "y"]),
                              ([Equation(X * X, -1)], ["x"]), ([Equation(2, 0)], []), ([Equation(2, 0)], ["x"]), ([Equation(0, 1)], ["x", "y"])):
            expected = []
            for size, count in shape.counts():
                rows = itertools.product(range(size), repeat=len(sought))
                kept = [row for row in rows if all(fact.holds(tell_oracle.FIELDS[size], dict(zip(sought, row))) for fact in facts)]
                expected.append((size, len(kept), count))
            self.assertEqual(shape.solutions(facts, sought), expected)
            self.assertEqual(shape.solutions(facts=tuple(facts), sought=tuple(sought)), expected)
        self.assertEqual(Shape([(64, 1)]).solutions([Equation(X * Y, Y * X)], ["x", "y"]), [(64, 4096, 1)])
        self.assertEqual(Shape([(64, 2), (61, 1)]).solutions([Equation(X ** 8, X)], ["x"]), [(61, 2, 1), (64, 8, 2)])
        self.assertEqual(Shape([]).solutions([Equation(X, 0)], ["x"]), [])

    def test_wrong_sizes_and_counts(self):
        for value in NO_SIZES:
            self.refused(InvalidSize, value, Shape, [(value, 1)])
            self.refused(InvalidSize, value, Shape, [(2, 0), (value, None), (None, 1)])
        for value in NO_COUNTS:
            self.refused(InvalidNumber, value, Shape, [(2, value)])
            self.refused(InvalidNumber, value, Shape, [(2, 1), (3, value), (4, None), (5, 0)])
            # Sizes go ahead of counts.
            self.refused(InvalidSize, 2, Shape, [(2, value), (2, 1)])
            self.refused(InvalidSize, 6, Shape, [(2, value), (6, 1)])
        self.refused(InvalidSize, 4, Shape, [(4, 1), (2, 1), (4, 1), (2, 1)])
        self.refused(InvalidSize, 4, Shape, [(4, 1), (4, 1), (6, 1)])
        self.refused(InvalidSize, 6, Shape, [(4, 1), (6, 1), (4, 1)])
        self.assertEqual(Shape([(2, 1), (3, MOST)]).counts(), [(2, 1), (3, MOST)])

    def test_later_changes(self):
        counts = [(4, 1), (2, 3)]
        shape = Shape(counts)
        counts.append((8, 1))
        shape.counts().clear()
        self.assertEqual([shape.counts(), counts], [[(2, 3), (4, 1)], [(4, 1), (2, 3), (8, 1)]])
        facts, sought = [Equation(X, 1)], ["x"]
        shape.solutions(facts, sought).clear()
        self.assertEqual([facts, sought, shape.solutions(facts, sought)], [[Equation(X, 1)], ["x"], [(2, 1, 3), (4, 1, 1)]])

    def test_the_interface(self):
        self.has_methods(Shape, {"__init__": "(self, counts)", "counts": "(self)", "count": "(self, size)", "solutions": "(self, facts, sought)",
                                 "of": "(world)", "__add__": "(self, other)", "__eq__": "(self, other)", "__repr__": "(self)"})
        self.has_methods(Embedding, {"__init__": "(self, amounts)", "amounts": "(self)", "holds": "(self, one, other)", "__bool__": "(self)"})
        self.has_methods(Blocked, {"__init__": "(self, kind, sizes)", "holds": "(self, one, other)", "__bool__": "(self)"})
        self.assertEqual(Shape(counts=[(2, 1)]).count(size=2), 1)
        self.assertEqual(embed(one=Shape([(2, 1)]), other=Shape([(2, 1)])).amounts(), [(2, 2, 1)])


class Embeddings64(Case):
    def judge(self, one, other):
        """What embed returns is right; returns whether it is an Embedding, otherwise the kind."""
        first, second = Shape(one), Shape(other)
        found = embed(first, second)
        self.assertIs(True, found.holds(first, second), (one, other))
        if isinstance(found, Embedding):
            self.assertTrue(found)
            amounts = found.amounts()
            self.assertEqual(amounts, sorted(amounts))
            self.assertEqual(len({triple[:2] for triple in amounts}), len(amounts))
            self.assertTrue(all(type(triple) is tuple and amount >= 1 for triple in amounts for amount in triple[2:]))
            self.judge_amounts(one, other, amounts)
            return True
        self.assertIs(type(found), Blocked)
        self.assertFalse(found)
        self.assertIs(type(found.sizes), tuple)
        alone = [great for great, _ in other if not any(oracle.lies_in(size, great) for size, _ in one)]
        if alone:
            self.assertEqual([found.kind, found.sizes], ["none", (min(alone),)])
        else:
            self.assertEqual([found.kind, list(found.sizes)], ["few", sorted(set(found.sizes))])
            self.assertLessEqual(set(found.sizes), {size for size, _ in one})
            greats = [count for great, count in other if any(oracle.lies_in(size, great) for size in found.sizes)]
            self.assertGreater(sum(first.count(size) for size in found.sizes), sum(greats))
        return found.kind

    def judge_amounts(self, one, other, amounts):
        for size, great, _ in amounts:
            self.assertTrue(oracle.lies_in(size, great))
        self.assertLessEqual({size for size, _, _ in amounts}, {size for size, _ in one})
        for size, count in one:
            self.assertGreaterEqual(sum(amount for small, _, amount in amounts if small == size), count)
        self.assertEqual(sorted(other), sorted((great, sum(amount for _, place, amount in amounts if place == great))
                                               for great in {great for _, great, _ in amounts}))

    def test_the_example_of_the_document(self):
        one, other = Shape([(2, 2), (4, 1)]), Shape([(4, 1), (8, 10 ** 20)])
        self.assertEqual([embed(one, other).amounts()[0][:2], embed(other, one).kind, (one + other).count(4)], [(2, 8), "none", 2])

    def test_all_ways_to_give_fields(self):
        found = []
        for seed in range(1500):
            one, other = drawn(seed, [1, 1, 2, 3], most=3)
            if sum(count for _, count in other) <= 7:
                kind = self.judge(one, other)
                self.assertEqual(kind is True, tell_oracle.gives_fields(one, other))
                found.append(kind)
        for kind in (True, "none", "few"):
            self.assertGreater(found.count(kind), 25)

    def test_small_and_great_counts(self):
        found = []
        for seed in range(2500):
            one, other = drawn(seed, [1, 2, 5, MOST // 2, MOST // 3, MOST - 1, MOST])
            if seed % 2:
                # A size in which all of its prime lie, so that more of them can be given.
                other = [pair for pair in other if pair[0] != 64] + [(64, MOST)]
                one = [pair for pair in one if pair[0] != 2] + [(2, 1)]
            kind = self.judge(one, other)
            self.assertEqual(kind is True, is_possible(one, other))
            found.append(kind)
        for kind in (True, "none", "few"):
            self.assertGreater(found.count(kind), 80)

    def test_sums_above_the_limit(self):
        great = Shape([(4, MOST)])
        for one, other, kind in ((great + great, Shape([(64, MOST)]) + Shape([(16, MOST)]), True),
                                 (great + great, Shape([(64, MOST)]) + Shape([(16, MOST - 1)]), False),
                                 (great + great + Shape([(4, 1)]), great + great + great, True),
                                 (great + great + Shape([(4, 1)]), great + great, False), (great, great + great, True)):
            found = embed(one, other)
            self.assertEqual([bool(found), found.holds(one, other)], [kind, True])
        self.assertEqual(embed(great, great + great).amounts(), [(4, 4, 2 * MOST)])

    def test_sizes_of_one_prime_that_do_not_lie_in_each_other(self):
        for small, great in ((4, 8), (8, 4), (9, 27), (27, 9), (8, 16), (8, 32), (4, 32), (16, 64), (32, 64), (4, 2), (27, 3), (2, 3)):
            self.assertEqual(self.judge([(small, 1)], [(great, 1)]), "none")
        # 64 has both 4 and 8 in it.
        self.assertIs(self.judge([(4, 3), (8, 2)], [(64, 5)]), True)
        self.assertEqual(self.judge([(4, 3), (8, 3)], [(64, 5)]), "few")
        for small, great in oracle.BELOW:
            self.assertIs(self.judge([(small, 1)], [(great, 1)]), True)
            self.assertEqual(self.judge([(great, 1)], [(small, 1)]), "none")

    def test_fields_that_have_to_change(self):
        # 2 must leave the fields of 4 elements to the ones of size 4, and those of 64 to the ones of size 8.
        self.assertIs(self.judge([(2, 3), (4, 2), (8, 2)], [(4, 1), (64, 3), (2, 2), (8, 1)]), True)
        self.assertIs(self.judge([(2, MOST), (4, MOST), (8, MOST)], [(16, MOST), (8, MOST), (64, MOST)]), True)
        self.assertEqual(self.judge([(2, MOST), (4, MOST), (8, MOST)], [(16, MOST), (8, MOST), (64, MOST - 1)]), "few")
        self.assertIs(self.judge([(2, 1), (4, 1), (8, 1), (16, 1)], [(64, 1), (16, 1), (32, 1), (8, 1)]), True)

    def test_nothing_on_a_side(self):
        none, one = Shape([]), Shape([(3, 2), (5, 1)])
        self.assertEqual([embed(none, none).amounts(), embed(none, none).holds(none, none)], [[], True])
        self.assertEqual([embed(none, one).kind, embed(none, one).sizes, embed(none, one).holds(none, one)], ["none", (3,), True])
        found = embed(one, none)
        self.assertEqual([found.kind, found.holds(one, none)], ["few", True])

    def test_worlds(self):
        self.assertTrue(embed(Shape.of(World(2, 3)), Shape.of(World(9, 4, 3))))
        self.assertFalse(embed(Shape.of(World(2, 3)), Shape.of(World(9, 4, 25))))
        self.assertFalse(embed(Shape.of(World(2, 2, 3)), Shape.of(World(9, 4, 3))))


class Judged65(Case):
    def test_amounts_bent_at_one_place(self):
        one, other = Shape([(2, 2), (4, 1), (3, 1)]), Shape([(4, 2), (8, 3), (27, 1), (16, 2)])
        right = [(2, 4, 1), (2, 8, 3), (2, 16, 1), (3, 27, 1), (4, 4, 1), (4, 16, 1)]
        self.assertIs(True, Embedding(right).holds(one, other))
        self.assertIs(True, Embedding(tuple(right)).holds(one, other))
        self.assertIs(True, embed(one, other).holds(one, other))
        for place, (size, great, amount) in enumerate(right):
            rest = right[:place] + right[place + 1:]
            for bent in ((size, great, amount + 1), (size, great, amount - 1), (size, great, -amount), (size, great, amount + MOST),
                         (size, 64, amount), (5, great, amount), (9, great, amount), (8, great, amount), (size, 25, amount)):
                self.assertIs(False, Embedding(rest + [bent]).holds(one, other), bent)
            self.assertIs(False, Embedding(rest).holds(one, other))
            self.assertIs(False, Embedding(right + [(size, great, amount)]).holds(one, other))
            self.assertIs(False, Embedding(right + [(size, great, 0)]).holds(one, other))
            # One amount below 1 is wrong, also if the sum is right.
            self.assertIs(False, Embedding(rest + [(size, great, amount + 1), (size, great, -1)]).holds(one, other))
        self.assertIs(False, Embedding([]).holds(one, other))
        self.assertIs(False, Embedding(right).holds(other, one))
        self.assertIs(False, Embedding(right).holds(one + Shape([(9, 1)]), other))
        self.assertIs(False, Embedding(right).holds(one, other + Shape([(9, 1)])))
        self.assertIs(False, Embedding(right).holds(one + Shape([(3, 1)]), other))

    def test_a_pair_twice(self):
        one, other = Shape([(2, 2), (4, 1)]), Shape([(4, 3), (8, 3)])
        twice = Embedding([(2, 8, 1), (4, 4, 2), (2, 8, 2), (4, 4, 1)])
        self.assertEqual([twice.holds(one, other), bool(twice), twice.amounts()],
                         [True, True, [(2, 8, 1), (2, 8, 2), (4, 4, 1), (4, 4, 2)]])
        self.assertIs(False, Embedding([(2, 8, 1), (4, 4, 2), (2, 8, 2), (4, 4, 2)]).holds(one, other))
        self.assertIs(False, Embedding([(2, 8, 3), (2, 8, 1), (4, 4, 3)]).holds(one, other))

    def test_each_field_is_used(self):
        one, other = Shape([(2, 2), (4, 3)]), Shape([(16, 5)])
        self.assertIs(True, Embedding([(2, 16, 2), (4, 16, 3)]).holds(one, other))
        self.assertIs(False, Embedding([(2, 16, 1), (4, 16, 4)]).holds(one, other))
        self.assertIs(False, Embedding([(2, 16, 3), (4, 16, 2)]).holds(one, other))
        self.assertIs(False, Embedding([(2, 16, 5)]).holds(one, other))
        self.assertIs(True, Embedding([(2, 16, 3), (4, 16, 2)]).holds(Shape([(2, 2), (4, 2)]), other))

    def test_sizes_that_do_not_lie_in_each_other(self):
        for small, great in ((4, 8), (9, 27), (8, 16), (8, 4), (4, 2), (2, 3), (16, 64)):
            self.assertIs(False, Embedding([(small, great, 1)]).holds(Shape([(small, 1)]), Shape([(great, 1)])))
        # Only one of the two pairs is wrong.
        self.assertIs(False, Embedding([(2, 4, 1), (4, 8, 1)]).holds(Shape([(2, 1), (4, 1)]), Shape([(4, 1), (8, 1)])))
        self.assertIs(True, Embedding([(2, 8, 1), (4, 4, 1)]).holds(Shape([(2, 1), (4, 1)]), Shape([(4, 1), (8, 1)])))

    def test_no_size_has_a_field_in_it(self):
        one, other = Shape([(4, 1), (3, 1)]), Shape([(8, 1), (16, 5), (9, 1), (5, 2)])
        self.assertEqual(embed(one, other).sizes, (5,))
        for sizes, flag in (((5,), True), ((8,), True), ([8], True), ((16,), False), ((9,), False), ((7,), False), ((2,), False), ((), False),
                            ((5, 8), False), ((8, 5), False), ((5, 5), False), ((4,), False), ((6,), False)):
            self.assertIs(Blocked("none", sizes).holds(one, other), flag, sizes)
        for kind in ("few", "None", "", "no", "nones", "some"):
            self.assertIs(False, Blocked(kind, (5,)).holds(one, other))

    def test_too_few_fields(self):
        one, other = Shape([(2, 5), (4, 2), (8, 2), (3, 4)]), Shape([(4, 1), (8, 9), (64, 2), (9, 3), (27, 1)])
        expected = {(4, 8): False, (4,): False, (2,): False, (3,): False}
        for sizes, flag in expected.items():
            self.assertIs(Blocked("few", sizes).holds(one, other), flag)
        one = one + Shape([(4, 2), (3, 1)])
        # 4 fields of 4 elements for 1 of 4 and 2 of 64; 5 of 3 elements for 4.
        for sizes, flag in (((4,), True), ([4], True), ((3,), True), ((3, 4), True), ((4, 3), False), ((3, 3), False), ((4, 4), False), ((), False),
                            ((4, 8), False), ((2, 4), False), ((4, 5), False), ((3, 4, 16), False), ((9,), False), ((3, 4, 4), False)):
            self.assertIs(Blocked("few", sizes).holds(one, other), flag, sizes)
        for kind in ("none", "Few", "", "fews"):
            self.assertIs(False, Blocked(kind, (4,)).holds(one, other))
        self.assertIs(True, embed(one, other).holds(one, other))
        self.assertIs(False, embed(one, other).holds(other, one))

    def test_properties(self):
        blocked = Blocked(kind="few", sizes=(2, 4))
        self.assertEqual([blocked.kind, blocked.sizes, bool(blocked), bool(Embedding([]))], ["few", (2, 4), False, True])
        amounts = [(4, 4, 1), (2, 4, 1)]
        made = Embedding(amounts=amounts)
        amounts.clear()
        made.amounts().clear()
        self.assertEqual(made.amounts(), [(2, 4, 1), (4, 4, 1)])
        sizes = [2, 4]
        blocked = Blocked("few", sizes)
        sizes.append(8)
        self.assertEqual(blocked.sizes, (2, 4))
        for thing in (made, blocked):
            self.equals_nothing_of_another_kind(thing, [Shape([])])


if __name__ == "__main__":
    unittest.main()
