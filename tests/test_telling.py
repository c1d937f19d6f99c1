import itertools
import unittest

from selfpower.equations import Equation
from selfpower.errors import DuplicateName, InvalidName, TooMany, UnknownName
from selfpower.points import count_points
from selfpower.tables import Table
from selfpower.telling import Hidden, Report, Told, least_sets, told_by
from selfpower.terms import Term
from selfpower.theories import Theory
from tests import tell_oracle
from tests.checks import NEAR, NO_NAMES, NONE, ODD, OVER, Case
from tests.run_oracle import Maker
from tests.tell_oracle import Question

X, Y, Z, U, V = [Term.of(name) for name in "xyzuv"]

FOUR = Theory(4)

# The sizes 2, 4 and 8, and no field has both others in it; the same with 3, 7 and 43; with 64; and 64 taken out again.
APART = Theory(22)
TOGETHER = Theory(64)
TAKEN = Theory(64, [Equation((X ** 4 - X) * (X ** 8 - X), 0)])

# Theories with few rows for so many names.
SMALL = [(Theory(2), 0), (Theory(2), 1), (Theory(2), 3), (Theory(2), 4), (Theory(3), 1), (Theory(3), 2), (Theory(4), 1),
         (Theory(4), 2), (Theory(8), 1), (Theory(9), 1), (APART, 0), (APART, 1), (Theory(7), 1), (ODD, 1), (NONE, 0),
         (NONE, 2), (Theory(16), 1), (TAKEN, 1), (Theory(25), 1), (Theory(5), 1)]


def drawn(seed):
    """A theory, names, up to four shown terms and a wished one, by chance."""
    theory, many = SMALL[seed % len(SMALL)]
    maker = Maker(seed)
    names = list("xyzu"[:many])
    shown = [maker.term(names) for _ in range(maker.chance.randrange(5))]
    while sum(count_points(size, len(shown)) for size in theory.sizes) > 6000:
        shown.pop()
    return theory, names, shown, maker.term(names)


def indicator(names, row):
    """A term that is 1 where all names have these values, and 0 elsewhere."""
    term = Term.of(1)
    for name, item in zip(names, row):
        term = Term.where(name, item, term, 0)
    return term


class Judging(Case):
    def judge(self, theory, names, shown, wished, question=None):
        """What told_by returns is right, by all rows of all fields; returns its kind."""
        question = question or Question(list(theory.sizes), names, shown, wished)
        report = told_by(theory, names, shown, wished)
        self.assertEqual(bool(report), report.KIND == "told")
        if report:
            self.judge_told(theory, report, question, len(shown))
        else:
            self.judge_hidden(theory, report, question)
        return report.KIND

    def judge_told(self, theory, report, question, many):
        self.assertEqual([type(report), repr(report)], [Told, "Report(told)"])
        table = report.table
        self.assertEqual([table.theory, table.variables], [theory, tuple("abcd"[:many])])
        reached = set()
        for pair in question.rows:
            self.assertEqual(table.lookup(pair[0], question.shown[pair]), question.wished[pair][0])
            reached.add(tell_oracle.point(pair[0], question.shown[pair]))
        for place in theory.points(many):
            self.assertTrue(place in reached or table[place] == 0)

    def judge_hidden(self, theory, report, question):
        self.assertEqual([type(report), repr(report)], [Hidden, "Report(hidden)"])
        for pair in (report.first, report.second):
            self.assertEqual([type(pair), type(pair[1])], [tuple, tuple])
            self.assertIn(pair, question.shown)
        self.assertTrue(question.bar(report.first, report.second))
        common = tell_oracle.greats(theory.sizes, report.first[0], report.second[0])
        if not common:
            self.assertIsNone(report.common)
            return
        size, one, other = report.common
        self.assertEqual([type(report.common), type(one), type(other)], [tuple, tuple, tuple])
        self.assertIn(size, common)
        self.assertEqual(tell_oracle.point(size, one), tell_oracle.point(*report.first))
        self.assertEqual(tell_oracle.point(size, other), tell_oracle.point(*report.second))
        self.assertTrue(question.contradict(size, one, other))


class Told57(Judging):
    def test_the_example_of_the_document(self):
        self.assertEqual([told_by(FOUR, ["x"], [X ** 2], X).table.entries(), told_by(FOUR, ["x", "y"], [X + Y, X], Y).KIND],
                         [[0, 1, 3], "told"])
        bars = told_by(FOUR, ["x"], [X ** 3], X)
        self.assertEqual([bars.KIND, bars.common[0], least_sets(FOUR, ["x", "y"], [X + Y, X, Y, X * Y], X)],
                         ["hidden", 4, [(1,), (0, 2)]])

    def test_all_pairs_of_rows(self):
        kinds = [self.judge(*drawn(seed)) for seed in range(600)]
        self.assertGreater(kinds.count("told"), 100)
        self.assertGreater(kinds.count("hidden"), 100)

    def test_by_hand(self):
        for theory, names, shown, wished, kind in (
                (Theory(2), ["x", "y"], [X + Y, X * Y], Term.where(X, Y, 1, 0), "told"),
                (Theory(3), ["x"], [X * X], X, "hidden"), (Theory(3), ["x"], [X * X, Term.where(X, 2, 0, X)], X, "told"),
                (Theory(2), ["x"], [X * X], X, "told"), (Theory(7), ["x"], [X ** 5], X, "told"),
                (Theory(7), ["x"], [X ** 2], X, "hidden"), (Theory(7), ["x"], [X ** 2, X ** 3], X, "told"),
                (Theory(4), ["x"], [X ** 2 + X], X, "hidden"), (Theory(9), ["x"], [X ** 3], X, "told"),
                (Theory(9), ["x"], [X ** 4], X ** 2, "hidden"), (Theory(4), ["x", "y"], [X, Y], X + Y * 2 + X * Y, "told"),
                (ODD, ["x"], [X + X], X, "told"), (Theory(7), ["x"], [X + X], X, "hidden")):
            self.assertEqual(self.judge(theory, names, shown, wished), kind, (theory, shown, wished))

    def test_four_names_and_four_terms(self):
        names = list("xyzu")
        shown = [X + Y, Y + Z, Z + U, U]
        self.assertEqual(told_by(Theory(3), names, shown, X).KIND, "told")
        report = told_by(Theory(3), names, shown, X)
        a, b, c, d = [Term.of(name) for name in "abcd"]
        self.assertEqual(report.table, Table.of(Theory(3), list("abcd"), a - b + c - d))
        self.assertEqual(self.judge(Theory(2), names, shown[:3], X), "hidden")
        self.assertEqual(self.judge(Theory(2), names, [X, Y, Z, U], indicator(names, (1, 0, 1, 1))), "told")

    def test_values_that_do_not_matter_are_0(self):
        report = told_by(Theory(5), ["x"], [X * X, Term.of(2)], X ** 4 + 1)
        reached = {(size, (x * x % size, 2 % size)): (pow(x, 4, size) + 1) % size for size in (2, 3, 5) for x in range(size)}
        self.assertEqual(report.table.entries(), [reached.get(place, 0) for place in Theory(5).points(2)])

    def test_terms_that_tell_nothing_and_all(self):
        nothing = [Term.of(0), X - X, X ** 0, Term.of(5)]
        for theory in (Theory(2), FOUR, Theory(9), APART):
            for many in range(5):
                self.assertEqual(self.judge(theory, ["x"], nothing[:many], X), "hidden")
                self.assertEqual(self.judge(theory, ["x"], nothing[:many], 3 * X ** 0), "told")
            for wished in (X, X + 1, X ** 3, Term.where(X, 0, 1, X)):
                self.assertEqual(self.judge(theory, ["x"], [X], wished), "told")
                self.assertEqual(self.judge(theory, ["x"], [nothing[0], -X], wished), "told")

    def test_no_shown_terms(self):
        report = told_by(Theory(7), ["x"], [], X - X + 3)
        self.assertEqual([report.KIND, report.table.variables, report.table.entries()], ["told", (), [1, 0, 3]])
        self.assertEqual(self.judge(Theory(7), [], [], Term.of(3)), "told")
        # 0 and 1 in one prime, and a value that is none of the prime.
        self.assertEqual(self.judge(FOUR, ["x"], [], X ** 3), "hidden")
        # The theory of 4 and 8 elements has one prime alone.
        self.assertEqual(self.judge(APART, ["x"], [], Term.where(X ** 2 + X, 1, 0, 0)), "told")

    def test_a_wished_result_outside_of_the_shown_field(self):
        for theory, size in ((FOUR, 4), (Theory(9), 9), (Theory(8), 8), (Theory(16), 16), (TOGETHER, 64)):
            self.assertEqual(self.judge(theory, ["x"], [Term.where(X ** theory.field(size).prime, X, X, 0)], X), "hidden")

    def test_terms_may_be_numbers_and_names(self):
        # A term of point 6 is a name or a whole number, too.
        self.assertEqual(told_by(FOUR, ["x", "y"], ["x", 1], X + 1).table, told_by(FOUR, ["x", "y"], [X, Term.of(1)], X + 1).table)
        self.assertEqual(told_by(FOUR, ["x"], [X], "x").KIND, "told")
        self.assertEqual(least_sets(FOUR, ["x", "y"], ["x", 1, "y"], "y"), [(2,)])

    def test_equal_calls_return_equal_results(self):
        for seed in range(60):
            one, other = told_by(*drawn(seed)), told_by(*drawn(seed))
            if one:
                self.assertEqual(one.table, other.table)
            else:
                self.assertEqual([one.first, one.second, one.common], [other.first, other.second, other.common])

    def test_the_interface(self):
        self.has_methods(Told, {"__init__": "(self, table)"})
        self.has_methods(Hidden, {"__init__": "(self, first, second, common)"})
        self.assertTrue(issubclass(Told, Report) and issubclass(Hidden, Report))
        self.assertEqual([Told.KIND, Hidden.KIND], ["told", "hidden"])
        made = Hidden((4, (2,)), (8, (3,)), None)
        self.assertEqual([made.first, made.second, made.common, bool(made), repr(made)],
                         [(4, (2,)), (8, (3,)), None, False, "Report(hidden)"])
        made = Hidden(first=(4, (2,)), second=(2, (0,)), common=(4, (2,), (0,)))
        self.assertEqual(made.common, (4, (2,), (0,)))
        report = told_by(theory=FOUR, names=["x"], shown=[X], wished=X)
        self.assertEqual([report.KIND, bool(report)], ["told", True])
        self.assertEqual(least_sets(theory=FOUR, names=["x"], shown=[X], wished=X), [(0,)])
        for thing in (report, made):
            self.equals_nothing_of_another_kind(thing, [FOUR, X])

    def test_later_changes(self):
        table = Table.of(FOUR, ["a"], Term.of("a"))
        made = Told(table)
        table[(4, (2,))] = 0
        self.assertEqual(made.table.entries(), [0, 1, 2])
        made.table[(4, (2,))] = 0
        self.assertEqual(made.table.entries(), [0, 1, 2])
        names, shown = ["x", "y"], [X + Y, X]
        report = told_by(FOUR, names, shown, Y)
        before = report.table
        names.append("z")
        shown.clear()
        report.table.put((2, (0, 1)), 0)
        self.assertEqual(report.table, before)
        found = least_sets(FOUR, ["x", "y"], [X, Y], X)
        found.append(0)
        self.assertEqual(least_sets(FOUR, ["x", "y"], [X, Y], X), [(0,)])


class Hidden58(Judging):
    def test_no_common_field(self):
        """The first way needs a field that has both; without one there is the second way."""
        # In the field of 4 elements it shows 0 and has 0, in that of 8 elements 0 and 1.
        wished = Term.where(X ** 4, X, 0, 1)
        self.assertEqual(TAKEN.sizes, (2, 4, 8))
        for theory in (APART, TAKEN):
            self.assertEqual(self.judge(theory, ["x"], [Term.of(0)], wished), "hidden")
            # Now the elements of 2 show 1, so that only those of 4 and of 8 show 0.
            shown = [Term.where(X ** 4, X, Term.where(X ** 2, X, 1, 0), 0)]
            report = told_by(theory, ["x"], shown, wished)
            self.assertEqual([report.KIND, sorted([report.first[0], report.second[0]]), report.common], ["hidden", [4, 8], None])
            self.assertEqual(self.judge(theory, ["x"], shown, wished), "hidden")

    def test_the_same_with_a_common_field(self):
        shown = [Term.where(X ** 4, X, Term.where(X ** 2, X, 1, 0), 0)]
        report = told_by(TOGETHER, ["x"], shown, Term.where(X ** 4, X, 0, 1))
        self.assertEqual([report.KIND, report.common is None], ["hidden", False])
        self.assertEqual(self.judge(TOGETHER, ["x"], shown, Term.where(X ** 4, X, 0, 1)), "hidden")

    def test_one_of_the_two_fields_alone(self):
        shown, wished = [Term.where(X ** 4, X, Term.where(X ** 2, X, 1, 0), 0)], Term.where(X ** 4, X, 0, 1)
        self.assertEqual(self.judge(FOUR, ["x"], shown, wished), "told")
        self.assertEqual(self.judge(Theory(8), ["x"], shown, wished), "told")

    def test_drawn_for_fields_apart(self):
        kinds = []
        for seed in range(60):
            maker = Maker(seed)
            shown = [maker.term(["x"]) for _ in range(seed % 3)] + [Term.where(X ** 4, X, maker.term(["x"]), X ** 7)]
            kinds.append(self.judge(APART, ["x"], shown, Term.where(X ** 4, X, maker.term(["x"]), X ** 7 * 2 + 1)))
        self.assertGreater(min(kinds.count("told"), kinds.count("hidden")), 8)

    def test_fields_of_16_elements(self):
        # Sums with the 4th power are in the field of 4 elements, and the products too.
        for shown, wished, kind in (([X ** 4 + X], X, "hidden"), ([X ** 4 + X, X ** 5], X, "hidden"),
                                    ([X ** 4 + X, X ** 5], X ** 4 * X + X ** 4 + X, "told"), ([X ** 2], X ** 7, "told"),
                                    ([X ** 5], X ** 10, "told"), ([X ** 5], X ** 3, "hidden")):
            self.assertEqual(self.judge(Theory(16), ["x"], shown, wished), kind)


class LeastSets(Case):
    def test_all_subsets(self):
        for seed in range(150):
            theory, many = [(Theory(2), 2), (Theory(2), 3), (Theory(3), 1), (FOUR, 1), (APART, 1), (Theory(9), 1), (NONE, 1)][seed % 7]
            maker = Maker(seed)
            names = list("xyz"[:many])
            shown = [maker.term(names) for _ in range(maker.chance.randrange(9 if theory.power == 2 else 5))]
            wished = maker.term(names)
            expected = tell_oracle.least_sets(list(theory.sizes), names, shown, wished)
            self.assertEqual(least_sets(theory, names, shown, wished), expected, (theory, shown, wished))

    def test_by_hand(self):
        names = ["x", "y", "z"]
        for theory, shown, wished, expected in (
                (Theory(7), [X, Y, Z], Term.of(1), [()]), (Theory(7), [X, Y, Z], X, [(0,)]), (Theory(7), [X, X, X], X, [(0,), (1,), (2,)]),
                (Theory(7), [X + Y, Z], X, []), (Theory(7), [], X, []), (Theory(7), [], X - X, [()]),
                (Theory(7), [X + Y, Y + Z, Z, Y, Y - X], X, [(0, 3), (0, 1, 2), (1, 2, 4), (3, 4)]),
                (Theory(2), [X, Y, Z, X + Y + Z], Z, [(2,), (0, 1, 3)])):
            self.assertEqual(least_sets(theory, names, shown, wished), sorted(expected, key=lambda chosen: (len(chosen), chosen)))

    def test_terms_of_four_names(self):
        names = list("xyzu")
        shown = [X + Y, Y + Z, Z + U, U, X, X + Z, X * Y, X + U]
        pairs = [set("xy"), set("yz"), set("zu"), set("u"), set("x"), set("xz"), None, set("xu")]
        for wished, letters in ((X, "x"), (X + Y + Z, "xyz"), (Y - U, "yu")):
            # In the theory of 2 the sums of names are sets of them, so a sum is told by those that sum up to it.
            expected = []
            for many in range(9):
                for chosen in itertools.combinations(range(8), many):
                    total = set()
                    for index in chosen:
                        total ^= pairs[index] or set()
                    if total == set(letters) and 6 not in chosen:
                        expected.append(chosen)
            least = [chosen for chosen in expected if not any(set(other) < set(chosen) for other in expected)]
            found = least_sets(Theory(2), names, shown, wished)
            # The product may help, too, so there may be further ones with it.
            self.assertEqual([chosen for chosen in found if 6 not in chosen], least)
            for chosen in found:
                values = {}
                for row in itertools.product(range(2), repeat=4):
                    given = dict(zip(names, row))
                    key = tuple(shown[index].evaluate(Theory(2).field(2), given) for index in chosen)
                    value = wished.evaluate(Theory(2).field(2), given)
                    self.assertEqual(values.setdefault(key, value), value)

    def test_all_of_eight_terms_are_needed(self):
        # Each shown term is 1 in one of eight rows alone, and the wished one is 1 in a ninth row.
        names = list("xyzu")
        rows = list(itertools.product(range(2), repeat=4))[:9]
        inside = Term.of(0)
        for row in rows:
            inside = inside + indicator(names, row)
        shown = [indicator(names, row) for row in rows[:8]]
        self.assertEqual(least_sets(Theory(2), names, [shown[0] + 1 - inside] + shown[1:], indicator(names, rows[8])),
                         [tuple(range(8))])
        for many in (5, 6, 7):
            wished = Term.of(0)
            for place in range(many):
                wished = wished + indicator(names, rows[place])
            self.assertEqual(least_sets(Theory(2), names, shown, wished)[-1], tuple(range(many)))

    def test_more_than_four_terms_with_points_beyond_the_limit(self):
        # Only the points of the inputs count, not those of as many names as there are shown terms.
        shown = [X, X + 1, X + 2, X * 2, X * 3, X ** 3, X ** 5, X ** 7]
        self.assertEqual(least_sets(Theory(61), ["x"], shown, X)[:3], [(0,), (1,), (2,)])
        self.assertEqual(least_sets(Theory(31), ["x"], shown, X), tell_oracle.least_sets(
            list(Theory(31).sizes), ["x"], shown, X))


class Refused(Case):
    def test_names(self):
        for call in (told_by, least_sets):
            for value in NO_NAMES:
                self.refused(InvalidName, value, call, FOUR, [value], [X], X)
                self.refused(InvalidName, value, call, FOUR, ["x", value, None], [X] * 9, V)
                self.refused(InvalidName, value, call, FOUR, ["x", "x", value], [V], X)
            self.refused(DuplicateName, "x", call, FOUR, ["x", "y", "x", "y"], [V], X)
            self.refused(DuplicateName, "y", call, FOUR, ["x", "y", "y", "x", "z", "u"], [X] * 9, X)
            self.refused(TooMany, 4, call, FOUR, ["x", "y", "z", "u", "v"], [X] * 9, X)
            self.refused(TooMany, 4, call, FOUR, ("x", "y", "z", "u", "v"), [], Term.of("w"))

    def test_how_many_shown_terms(self):
        self.refused(TooMany, 4, told_by, FOUR, ["x"], [X] * 5, X)
        self.refused(TooMany, 4, told_by, FOUR, ["x"], [V] * 5, V)
        self.refused(TooMany, 8, least_sets, FOUR, ["x"], [X] * 9, X)
        self.refused(TooMany, 8, least_sets, FOUR, ["x"], [V] * 9, V)
        self.assertEqual(told_by(Theory(3), ["x"], [X] * 4, X).KIND, "told")
        self.assertEqual(least_sets(FOUR, ["x"], [X] * 5, X), [(index,) for index in range(5)])
        self.assertEqual(least_sets(FOUR, ["x"], [X] * 8, X), [(index,) for index in range(8)])
        self.assertEqual(least_sets(FOUR, ("x",), (X,) * 8, X), [(index,) for index in range(8)])

    def test_unknown_names(self):
        for call in (told_by, least_sets):
            self.refused(UnknownName, "v", call, FOUR, ["x"], [X, V + Z, U], Y)
            # Of one term the least such name, whatever stands in the term first.
            self.refused(UnknownName, "u", call, FOUR, ["x"], [X, Z + V + X + U, Term.of("a")], Y)
            self.refused(UnknownName, "y", call, FOUR, ["x"], [X, X + 1], Y + Z)
            self.refused(UnknownName, "z", call, OVER, list("xyu") + ["v"], [X, Z], X)
            self.refused(UnknownName, "x", call, FOUR, [], [], X)

    def test_too_many_points(self):
        names = list("xyzu")
        self.refused(TooMany, 6000, told_by, OVER, names, [X], X)
        self.refused(TooMany, 6000, least_sets, OVER, names, [X], X)
        # As many shown terms, whatever the answer is.
        for wished in (X, Y, Term.of(1), X + 1):
            self.refused(TooMany, 6000, told_by, OVER, ["x", "y"], [X, X, X, X], wished)
        self.refused(TooMany, 6000, told_by, OVER, [], [Term.of(1)] * 4, Term.of(1))
        self.assertEqual(told_by(OVER, ["x", "y"], [X, X, X], X).KIND, "told")
        self.assertEqual(least_sets(OVER, ["x", "y"], [X, X, X, X], X), [(0,), (1,), (2,), (3,)])
        # 5858 points are not too many.
        self.assertEqual(told_by(NEAR, names, [X, Y, Z, U], X + Y).table.variables, ("a", "b", "c", "d"))
        self.assertEqual(least_sets(NEAR, names, [X, Y, Z, U], X + Y), [(0, 1)])


class NothingLeft(Case):
    def test_theories_without_sizes(self):
        for names, shown, wished in (([], [], Term.of(1)), (["x"], [], X), (["x", "y"], [Y], X), (list("xyzu"), [X] * 4, U)):
            report = told_by(NONE, names, shown, wished)
            self.assertEqual([report.KIND, report.table.entries(), len(report.table.variables)], ["told", [], len(shown)])
            self.assertEqual(least_sets(NONE, names, shown, wished), [()])

    def test_no_names(self):
        self.assertEqual(told_by(Theory(7), [], [], Term.of(12)).table.entries(), [0, 0, 5])
        self.assertEqual(told_by(Theory(7), [], [Term.of(3)], Term.of(12)).table.zeros(),
                         [place for place in Theory(7).points(1) if place not in [(7, (3,))]])
        self.assertEqual(least_sets(Theory(7), [], [Term.of(3), Term.of(4)], Term.of(12)), [()])


if __name__ == "__main__":
    unittest.main()
