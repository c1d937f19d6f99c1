import itertools
import unittest
from unittest import mock

from selfpower import mappings
from selfpower.errors import InvalidElement, InvalidNumber
from selfpower.fields import Field
from selfpower.programs import Program
from selfpower.tables import tables_of
from selfpower.terms import Term
from selfpower.theories import Theory
from selfpower.worlds import World
from tests import oracle, run_oracle, term_oracle
from tests.checks import Case
from tests.oracle import NO_NUMBERS
from tests.run_oracle import Maker

X, Y, U, V = Term.of("x"), Term.of("y"), Term.of("u"), Term.of("v")

ASKS = Program("asks", ["x"], [("test", "x", 0, [], [("set", "x", 1)])], ["x"])


def elements(sizes):
    return list(itertools.product(*[range(size) for size in sizes]))


def dot(size, one, other):
    """The sum of the products of the items of two rows."""
    total = 0
    for a, b in zip(one, other):
        total = oracle.plus(size, total, oracle.times(size, a, b))
    return total


def rows_of(size, a, b, c, d, e, f):
    """The map that makes (a * u + b * v + c, d * u + e * v + f, 1) of (u, v, 1)."""
    return [(a, b, c), (d, e, f), (0, 0, 1)]


def then(size, first, second):
    """The second map done behind the first one."""
    return [tuple(dot(size, row, column) for column in zip(*first)) for row in second]


def often(size, once, times):
    """The map done so many times."""
    found = [(1, 0, 0), (0, 1, 0), (0, 0, 1)]
    while times:
        if times % 2:
            found = then(size, found, once)
        once = then(size, once, once)
        times //= 2
    return found


def made_by(seed):
    """A program with at most 6 tests and a list of sizes, both by chance."""
    maker = Maker(seed)
    known = [maker.flat("f", 1, 1), maker.flat("g", 2, 2), maker.program("h", 1, 1, 2), maker.program("k", 2, 1, 1)]
    program = maker.program("p", seed % 4, 1 + seed % 3, 6, known)
    sizes = [maker.chance.choice([2, 3, 4, 5, 7, 8, 9, 16]) for _ in range(1 + seed % 4)]
    rows = [[tuple(maker.chance.randrange(size) for size in sizes) for _ in program.inputs()] for _ in range(3)]
    return known, program, sizes, rows


class Runs(Case):
    def test_by_hand(self):
        world = World(2, 4)
        swap = Program("swap", ["x", "y"], [("set", "z", "x"), ("set", "x", "y"), ("set", "y", "z")], ["x", "y", X + Y, 3])
        self.assertEqual(world.run(swap, (0, 1), (1, 3)), ((1, 3), (0, 1), (1, 2), (1, 1)))
        self.assertEqual(world.trace(swap, (0, 1), (1, 3)), ((), ((1, 3), (0, 1), (1, 2), (1, 1))))
        self.assertEqual(world.run(Program("n", [], [], [-1]),), ((1, 1),))
        self.assertEqual(World(3).run(Program("n", [], [], [-1, 5]),), ((2,), (2,)))

    def test_equal_only_if_equal_in_all_fields(self):
        for sizes in ((2,), (3,), (2, 2), (2, 4), (4, 2), (3, 2, 2)):
            world = World(*sizes)
            zero = (0,) * len(sizes)
            one = (1,) * len(sizes)
            for x in elements(sizes):
                self.assertEqual(world.trace(ASKS, x), ((x == zero,), (zero if x == zero else one,)))
                self.assertEqual(world.run(ASKS, x), (zero if x == zero else one,))

    def test_kinds(self):
        answers, outputs = World(2, 4).trace(ASKS, (0, 1))
        self.assertEqual([type(answers), type(outputs), type(outputs[0])], [tuple, tuple, tuple])
        self.assertEqual([type(answer) for answer in answers], [bool])
        self.assertEqual([type(item) for item in outputs[0]], [int, int])
        self.assertIs(type(World(2, 4).trace(ASKS, (0, 1))), tuple)
        self.assertIs(type(World(2, 4).run(ASKS, (0, 1))), tuple)

    def test_answers_in_the_order_in_which_they_are_asked(self):
        inner = Program("inner", ["a"], [("test", "a", 1, [("test", "a", "a", [], [])], [])], ["a"])
        outer = Program("outer", ["x"], [
            ("test", "x", 2, [("call", ["x"], inner, [X - 1])], [("call", ["x"], inner, ["x"])]), ("test", "x", 1, [], [])],
            ["x"])
        world = World(5)
        self.assertEqual(world.trace(outer, (2,)), ((True, True, True, True), ((1,),)))
        self.assertEqual(world.trace(outer, (1,)), ((False, True, True, True), ((1,),)))
        self.assertEqual(world.trace(outer, (0,)), ((False, False, False), ((0,),)))
        self.assertEqual(world.trace(outer, (4,)), ((False, False, False), ((4,),)))

    def test_a_called_program_does_not_change_other_names(self):
        called = Program("called", ["a"], [("set", "x", 5), ("set", "b", 6), ("test", "a", 0, [("set", "a", 1)], [])],
                         ["x", "b", "a"])
        program = Program("p", ["x", "b"], [("set", "a", 3), ("call", ["u", "v", "b"], called, ["x"])],
                          ["x", "a", "u", "v", "b"])
        self.assertEqual(World(7).trace(program, (0,), (4,)), ((True,), ((0,), (3,), (5,), (6,), (1,))))
        self.assertEqual(World(7).trace(program, (2,), (4,)), ((False,), ((2,), (3,), (5,), (6,), (2,))))

    def test_all_terms_of_a_call_are_computed_ahead_of_it(self):
        for steps in ([], [("test", "a", "a", [], [])]):
            swap = Program("swap", ["a", "b"], steps, ["b", "a"])
            program = Program("p", ["x", "y"], [("call", ["x", "y"], swap, ["x", "y"]), ("call", ["y", "x"], swap, [Y + X, "y"])],
                              ["x", "y"])
            # (x, y) becomes (y, x), and then x is the sum and y is the former x.
            self.assertEqual(World(7).run(program, (2,), (3,)), ((5,), (2,)))

    def test_calls_of_programs_without_inputs(self):
        flat = Program("flat", [], [("set", "a", 2), ("repeat", 20, [("set", "a", Term.of("a") + 1)])], ["a", 5])
        tested = Program("tested", [], [("set", "a", 1), ("test", 2, 0, [], [("set", "a", 3)])], ["a"])
        program = Program("p", ["x"], [("call", ["y", "z"], flat, []), ("call", ["x"], tested, []), ("repeat", 5, [
            ("call", ["y", "z"], flat, [])])], ["x", "y", "z"])
        self.assertEqual(World(7, 2).trace(program, (5, 1)), ((False,), ((3, 1), (22 % 7, 0), (5, 1))))
        self.assertEqual(World(2).trace(program, (1,)), ((True,), ((1,), (0,), (1,))))
        self.assertEqual(World(7).run(flat), ((1,), (5,)))

    def test_programs_by_chance(self):
        asked = set()
        for seed in range(250):
            _, program, sizes, rows = made_by(seed)
            for row in rows:
                expected = run_oracle.run(program, sizes, row)
                self.assertEqual(World(*sizes).trace(program, *row), expected)
                self.assertEqual(World(*sizes).run(program, *row), expected[1])
                asked.add(expected[0])
        self.assertGreater(len([answers for answers in asked if len(answers) > 1]), 8)

    def test_the_same_programs_from_their_texts(self):
        for seed in range(0, 250, 3):
            known, program, sizes, rows = made_by(seed)
            read = Program.read(program.text(), *known)
            self.assertEqual(World(*sizes).trace(read, *rows[0]), World(*sizes).trace(program, *rows[0]))

    def test_worlds_of_16_sizes(self):
        for seed in range(20):
            _, program, _, _ = made_by(seed)
            sizes = [[2, 3, 4, 5, 7, 8, 9, 64, 61][(seed + 3 * place) % 9] for place in range(16)]
            row = [tuple((seed + at * place) % size for place, size in enumerate(sizes)) for at, _ in enumerate(program.inputs())]
            self.assertEqual(World(*sizes).trace(program, *row), run_oracle.run(program, sizes, row))


class FlatByFields(Case):
    def test_a_flat_program_returns_in_a_world_what_it_returns_in_its_fields(self):
        for seed in range(120):
            maker = Maker(seed)
            program = maker.flat("f", 1 + seed % 4, 1 + seed % 6)
            sizes = [maker.chance.choice(oracle.ALL_SIZES) for _ in range(1 + seed % 5)]
            row = [tuple(maker.chance.randrange(size) for size in sizes) for _ in program.inputs()]
            alone = [World(size).run(program, *[(element[place],) for element in row]) for place, size in enumerate(sizes)]
            expected = tuple(tuple(outputs[at][0] for outputs in alone) for at in range(1 + seed % 6))
            self.assertEqual(World(*sizes).run(program, *row), expected)
            self.assertEqual(World(*sizes).trace(program, *row), ((), expected))

    def test_a_program_with_tests_does_not(self):
        self.assertEqual([World(2).run(ASKS, (0,)), World(2).run(ASKS, (1,)), World(2, 2).run(ASKS, (0, 1))],
                         [((0,),), ((1,),), ((1, 1),)])


class Repeats(Case):
    TIMES = [0, 1, 2, 3, 15, 16, 17, 18, 59, 60, 61, 62, 63, 64, 65, 100, 10 ** 9, 10 ** 30 - 1, 10 ** 30]

    def repeated(self, steps, size, times, rows):
        """What repeating these steps makes of each row for u and v."""
        program = Program("p", ["u", "v"], [("repeat", times, steps)], ["u", "v"])
        return [tuple(value for value, in World(size).run(program, *[(item,) for item in row])) for row in rows]

    def test_one_name_step_by_step(self):
        for size in (2, 3, 4, 5, 7, 9, 16, 27, 61, 64):
            for term in (U + 1, U * U, 2 * U + 1, U ** 3 + V, Term.where(U, 0, 1, U * (U + V)), Term.of(3)):
                steps = [("set", "u", term)]
                for row in ((0, 1), (size - 1, size // 2)):
                    path = [row]
                    while len(path) <= 100:
                        now = {"u": path[-1][0], "v": row[1]}
                        path.append((term.evaluate(Field(size), now), row[1]))
                    for times in (0, 1, 2, 3, 16, 17, 18, 63, 64, 65, 100):
                        self.assertEqual(self.repeated(steps, size, times, [row]), [path[times]])

    def test_times_whose_remainders_differ_by_the_size_of_a_field(self):
        for size in (2, 3, 5, 7, 11, 61):
            for times in (10 ** 30, 10 ** 30 - 1, 10 ** 30 - size, 10 ** 30 - size + 1, 10 ** 29 + size, size, 2 * size, size + 1):
                self.assertEqual(self.repeated([("set", "u", U + 1)], size, times, [(1, 0)]), [((1 + times) % size, 0)])
                self.assertEqual(self.repeated([("set", "u", U + V), ("set", "v", V + 1)], size, times, [(0, 0)]),
                                 [(times * (times - 1) // 2 % size, times % size)])

    def test_powers_of_elements(self):
        for size in (4, 8, 9, 16, 25, 64):
            for item in range(size):
                for times in self.TIMES:
                    expected = term_oracle.power(size, item, times)
                    self.assertEqual(self.repeated([("set", "u", U * V)], size, times, [(1, item)]), [(expected, item)])

    def test_two_names(self):
        # The numbers of Fibonacci, from the halves of their indexes.
        def pair(times, size):
            if times == 0:
                return 0, 1
            low, high = pair(times // 2, size)
            even, odd = low * (2 * high - low) % size, (low * low + high * high) % size
            return (odd, (even + odd) % size) if times % 2 else (even, odd)

        steps = [("set", "v", U + V), ("set", "u", V - U)]
        for size in (2, 3, 5, 7, 11, 59, 61):
            for times in self.TIMES:
                self.assertEqual(self.repeated(steps, size, times, [(0, 1)]), [pair(times, size)])

    def test_long_ways_round(self):
        steps = [("set", "v", U + V * 2 + U * V), ("set", "u", V + U * U)]
        for size in (16, 19, 27):
            rows = [(u, v) for u in range(0, size, 5) for v in range(0, size, 3)]
            for times in (17, 1000, 10 ** 30):
                program = Program("p", ["u", "v"], [("repeat", times, steps)], ["u", "v"])
                expected = [run_oracle.run(program, [size], [(u,), (v,)])[1] for u, v in rows]
                self.assertEqual(self.repeated(steps, size, times, rows), [(u, v) for (u,), (v,) in expected])

    def test_the_longest_way_round(self):
        # Steps that count to the base 61, with u as the low digit: all pairs stand in one cycle.
        steps = [("set", "v", V + Term.where(U, 60, 1, 0)), ("set", "u", U + 1)]
        for times in self.TIMES + [61 ** 2 - 1, 61 ** 2, 61 ** 2 + 1]:
            count = (5 + 61 * 7 + times) % 61 ** 2
            self.assertEqual(self.repeated(steps, 61, times, [(5, 7)]), [(count % 61, count // 61)])

    def test_with_tails_ahead_of_the_cycle(self):
        steps = [("set", "u", Term.where(U, 0, 0, U - 1)), ("set", "v", Term.where(U, 0, V, V + 1))]
        for size in (5, 61):
            for times in self.TIMES:
                for u in (0, 1, 3, size - 1):
                    expected = (max(0, u - times), min(times, max(0, u - 1)) % size)
                    self.assertEqual(self.repeated(steps, size, times, [(u, 0)]), [expected])

    def test_other_names_stay(self):
        program = Program("p", ["x", "y"], [("set", "u", "x"), ("repeat", 10 ** 30, [("set", "u", U * X + Y)])], ["u", "x", "y"])
        for x, y in itertools.product(range(7), repeat=2):
            self.assertEqual(World(7).run(program, (x,), (y,)), run_oracle.run(program, [7], [(x,), (y,)])[1])

    def test_calls_that_read_names_which_stay(self):
        flat = Program("flat", ["a", "b"], [("repeat", 3, [("set", "a", Term.of("a") * Term.of("b") + 1)])], ["a", "b"])
        for times in (0, 1, 16, 17, 10 ** 30):
            program = Program("p", ["x", "y", "z"], [("set", "u", 0), ("set", "v", 0), ("repeat", times, [
                ("repeat", 2, [("call", ["u", "v"], flat, [U + X, Y])]), ("set", "v", V * Term.of("z"))])],
                ["u", "v", "x", "y", "z"])
            for row in ((1, 2, 3), (4, 4, 4), (0, 3, 1)):
                given = [(item,) for item in row]
                self.assertEqual(World(5).run(program, *given), run_oracle.run(program, [5], given)[1])

    def test_no_steps(self):
        for times in self.TIMES:
            program = Program("p", ["x"], [("repeat", times, [("repeat", times, [])])], ["x"])
            self.assertEqual(World(2, 4).run(program, (1, 3)), ((1, 3),))
            self.assertEqual(World(2, 4).run(Program("p", [], program.steps(), [1]),), ((1, 1),))

    def test_the_same_however_much_is_kept(self):
        """What is found is kept for some rows only, and looked for in parts: both change no answer."""
        programs = [made_by(seed) for seed in range(60)]
        expected = [World(*sizes).trace(program, *rows[0]) for _, program, sizes, rows in programs]
        for name, value in (("MOST_KEPT", 0), ("MOST_KEPT", 3), ("ROWS_AT_ONCE", 1), ("FEW_TIMES", 1), ("FEW_TIMES", 70)):
            with mock.patch.object(mappings, name, value):
                self.assertEqual([World(*sizes).trace(program, *rows[0]) for _, program, sizes, rows in programs], expected)


class Nested(Case):
    def test_repeats_within_repeats(self):
        for times in itertools.product([0, 1, 2, 17], [0, 3, 18], [1, 2, 20]):
            first, second, third = times
            steps = [("repeat", first, [("set", "u", U + 1), ("repeat", second, [("set", "v", V + U), ("repeat", third, [
                ("set", "u", U * 3)]), ("set", "u", U + V)])])]
            program = Program("p", ["u", "v"], steps, ["u", "v"])
            u, v = 1, 2
            for _ in range(first):
                u = u + 1
                for _ in range(second):
                    v = v + u
                    u = u * 3 ** third + v
                    # The numbers are taken modulo both sizes at the end.
                    u, v = u % 77, v % 77
            self.assertEqual(World(7, 11).run(program, (1, 1), (2, 2)), ((u % 7, u % 11), (v % 7, v % 11)))

    def test_four_deep(self):
        most = 10 ** 30
        steps = [("set", "u", U + V)]
        for times in (most, most - 1, 19):
            steps = [("repeat", times, steps), ("set", "v", V * 2 + 1)]
        program = Program("p", ["u", "v"], steps, ["u", "v"])
        self.assertEqual(Program.read(program.text()), program)
        for size in (2, 3, 4, 5):
            for row in itertools.product(range(size), repeat=2):
                expected = run_oracle.run(program, [size], [(item,) for item in row])
                self.assertEqual(World(size).trace(program, *[(item,) for item in row]), expected)

    def test_large_fields_and_many_times(self):
        inner = [("set", "u", U + V * 2 + 1), ("set", "v", U * 3 + V)]
        steps = [("repeat", 10 ** 30, [("repeat", 10 ** 29 + 7, [("repeat", 10 ** 28, inner)]), ("set", "u", U + 1)])]
        program = Program("p", ["u", "v"], steps, ["u", "v"])
        sizes, row = [61, 64, 59, 64], [(3, 4, 5, 6), (7, 8, 9, 10)]
        found = World(*sizes).run(program, *row)
        for place, size in enumerate(sizes):
            # In these fields the steps are sums of multiples, so all of it is done by maps of the triples (u, v, 1).
            three = oracle.FIELDS[size][0] % 2 and 3 or 1
            once = then(size, rows_of(size, 1, 2 % oracle.FIELDS[size][0], 1, 0, 1, 0), rows_of(size, 1, 0, 0, three, 1, 0))
            within = often(size, often(size, once, 10 ** 28), 10 ** 29 + 7)
            whole = often(size, then(size, within, rows_of(size, 1, 0, 1, 0, 1, 0)), 10 ** 30)
            start = (row[0][place], row[1][place], 1)
            expected = [dot(size, part, start) for part in whole]
            self.assertEqual([found[0][place], found[1][place]], expected[:2])

    def test_tests_within_tests(self):
        steps = []
        for depth in range(3):
            steps = [("set", "y", Y * 2), ("test", X, depth, steps, [("set", "y", Y + depth + 1)])]
        program = Program("p", ["x", "y"], steps, ["y"])
        for x, y in itertools.product(range(5), repeat=2):
            expected = run_oracle.run(program, [5], [(x,), (y,)])
            self.assertEqual(World(5).trace(program, (x,), (y,)), expected)
            self.assertEqual(World(5).trace(Program.read(program.text()), (x,), (y,)), expected)
        # 2 is asked for first, then 1: 1 becomes 2, then 4, then 4 + 2.
        self.assertEqual(World(5).trace(program, (2,), (1,)), ((True, False), ((1,),)))

    def test_all_of_them_with_calls(self):
        add = Program("add", ["a", "b"], [("repeat", 3, [("set", "a", Term.of("a") + Term.of("b") + 1)])], ["a"])
        flat = Program("flat", ["a"], [("repeat", 18, [("call", ["a"], add, ["a", "a"])])], ["a", 7])
        asks = Program("ask", ["a"], [("test", "a", 2, [("call", ["a"], add, ["a", 1])], [])], ["a"])
        steps = [
            ("test", X, 0, [
                ("repeat", 10 ** 30, [("repeat", 17, [("call", ["x", "y"], flat, [X + Y])]), ("call", ["x"], add, ["y", "x"])]),
                ("test", X, Y, [("call", ["y"], asks, ["x"])], [("call", ["x"], add, [Y, 2])])],
             [("test", Y, 1, [("test", X, 1, [("call", ["x"], asks, [X + 1])], [("set", "x", 0)])], [])])]
        program = Program("p", ["x", "y"], steps, ["x", "y"])
        read = Program.read(program.text(), add, flat, asks)
        self.assertEqual(read, program)
        for sizes in ([5], [4], [2, 3]):
            for x, y in itertools.product(elements(sizes), repeat=2):
                expected = run_oracle.run(program, sizes, [x, y])
                self.assertEqual(World(*sizes).trace(program, x, y), expected)
                self.assertEqual(World(*sizes).trace(read, x, y), expected)

    def test_calls_of_calls(self):
        program = Program("p", ["x"], [("set", "x", X + 1)], ["x"])
        tested = Program("t", ["x"], [("test", "x", 0, [("set", "x", 2)], [("set", "x", X + 1)])], ["x"])
        for _ in range(300):
            # Each program calls the one ahead of it twice.
            program = Program("p", ["x"], [("call", ["x"], program, ["x"]), ("call", ["x"], program, ["x"])], ["x"])
            tested = Program("t", ["x"], [("call", ["x"], tested, [X + 1])], ["x"])
        self.assertEqual(World(61, 64).run(program, (5, 2)), (((5 + 2 ** 300) % 61, 2),))
        self.assertEqual([table.entries() for table in tables_of(Theory(3), program)], [[0, 1, 1, 2, 0]])
        # 300 is added, and 1 once more, unless it is 0 then in all fields.
        self.assertEqual(World(61, 59).trace(tested, (1, 1)), ((False,), ((58, 7),)))
        self.assertEqual(World(61, 59).trace(tested, (5, 54)), ((True,), ((2, 2),)))
        self.assertEqual(World(61, 59).trace(tested, (5, 53)), ((False,), ((1, 0),)))


class Refused(Case):
    def test_how_many_elements(self):
        world = World(2, 4)
        two = Program("two", ["x", "y"], [("test", "x", 0, [], [])], ["x"])
        none = Program("none", [], [], [1])
        for call in (world.run, world.trace):
            self.refused(InvalidNumber, 0, call, two)
            self.refused(InvalidNumber, 1, call, two, (0, 0))
            self.refused(InvalidNumber, 3, call, two, (0, 0), (0, 0), (0, 0))
            self.refused(InvalidNumber, 1, call, none, (0, 0))
            self.refused(InvalidNumber, 2, call, ASKS, (0, 0), (0, 0))
            # The number goes ahead of wrong elements.
            self.refused(InvalidNumber, 1, call, two, None)
            self.refused(InvalidNumber, 3, call, two, (0, 4), [1], 0)
            self.refused(InvalidNumber, 5, call, none, 1, 2, 3, 4, 5)

    def test_wrong_elements(self):
        world = World(2, 4)
        two = Program("two", ["x", "y"], [], ["x"])
        for value in NO_NUMBERS + [0, 1, 3, (0,), (0, 4), (2, 0), (0, 0, 0), [0, 0], (0, True), (False, 0), (0, -1), ASKS]:
            for call in (world.run, world.trace):
                self.refused(InvalidElement, value, call, ASKS, value)
                self.refused(InvalidElement, value, call, two, value, (0, 0))
                self.refused(InvalidElement, value, call, two, (1, 3), value)
                self.refused(InvalidElement, value, call, two, value, None)


if __name__ == "__main__":
    unittest.main()
