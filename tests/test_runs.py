"""What runs tell and let set: [19], and the facts of [21]."""

import unittest

from hueward.errors import BadArray, BadIndex, BadLength, BadName, BadNumber, NoPart
from hueward.meaning import Run, source_row
from hueward.programs import resized
from tests.samples import FULL, PROGRAM_16, PROGRAM_21, STRANGE, crowded_programs, main_only, some_programs

ZERO, ONE, TWO, THREE = [("number", number) for number in range(4)]
X = ("local", "x")
Y = ("local", "y")
STOP = ("stop",)
TAKES = ("takes",)

# Main shows x, and f shows p and gives z; its first running is open behind the fourth step.
RUN_F = ("show", 0, ("run", "f", (TWO,)))
OPEN = main_only(
    ("let", "x", ONE), RUN_F, ("show", 1, X), RUN_F, ("show", 1, X),
    arrays=[("a", (1, 2))],
    functions=[
        ("f", ("p",), (("let", "q", ZERO), ("show", 2, ("local", "p")), ("give", ("local", "z")))),
        ("g", ("p",), ()),
    ],
)


def moment(run):
    """All that a run tells, but for its arrays."""
    return (run.row, run.steps, run.state, run.left, run.place, run.wraps, run.sources)


def moments(run, many):
    """All that a run tells ahead of each of so many steps."""
    found = []
    for _ in range(many):
        found.append(moment(run))
        run.go(1)
    return found


def gone(program, inputs, steps):
    """A run behind so many steps."""
    run = Run(program, inputs)
    run.go(steps)
    return run


class Properties(unittest.TestCase):

    def test_ahead_of_the_first_step(self):
        run = Run(PROGRAM_21, [17, 4])
        self.assertEqual(moment(run), ([], 0, "running", [17, 4], ("main", 0), 0, []))
        self.assertEqual(run.cells("a"), [3, 4])
        self.assertEqual(Run(main_only(), []).place, ("main", 0))
        self.assertEqual(Run(main_only(("while", ("plus", ONE, TWO), ())), []).place, ("main", 2))

    def test_amid_a_run(self):
        run = gone(PROGRAM_21, [17, 4], 5)
        self.assertEqual(moment(run), ([("take", 7)], 5, "running", [4], ("f", 3), 1, [(("takes",),)]))
        self.assertEqual(run.cells("a"), [3, 4])

    def test_behind_the_end(self):
        run = gone(PROGRAM_21, [17, 4], 13)
        told = moment(run)
        self.assertEqual(told[:6], ([("take", 7), ("show", 2, 8), STOP], 13, "stopped", [4], None, 2))
        self.assertEqual(run.cells("a"), [3, 8])
        run.go(1)
        run.go(1000)
        self.assertEqual(moment(run), told)

    def test_the_example(self):
        run = Run(PROGRAM_21, [17])
        lengths = []
        for _ in range(13):
            run.go(1)
            lengths.append(len(run.row))
        self.assertEqual(lengths, [1] * 11 + [2, 3])
        self.assertEqual(run.row, [("take", 7), ("show", 2, 8), STOP])
        self.assertEqual((run.cells("a"), run.wraps, run.state, run.place), ([3, 8], 2, "stopped", None))
        self.assertEqual(run.sources, [
            (("takes",),), (("array", "a"), ("local", "f", "p"), ("local", "main", "x"), ("takes",)), (),
        ])

    def test_the_end_of_a_part(self):
        run = gone(main_only(("mark",)), [], 1)
        self.assertEqual((run.place, run.state, run.row), (("main", 1), "running", []))
        run.go(1)
        self.assertEqual((run.place, run.state, run.row), (None, "stopped", [STOP]))
        run = gone(main_only(("show", 0, ("run", "f", ())), functions=[("f", (), ())]), [], 1)
        self.assertEqual((run.place, run.state), (("f", 0), "running"))

    def test_left(self):
        run = Run(main_only(("take", "x"), ("take", "x"), ("take", "x")), [12, 13])
        told = []
        for _ in range(5):
            told.append(run.left)
            run.go(1)
        self.assertEqual(told, [[12, 13], [13], [], [], []])

    def test_cells(self):
        run = Run(FULL, [])
        self.assertEqual((run.cells("a"), run.cells("b")), ([1, 2, 3], [99]))
        for array in STRANGE + ("f", "n", "main", "c", "A", ("a",), ["a"]):
            self.assertRaises(BadArray, run.cells, array)

    def test_source_row(self):
        for steps in range(16):
            self.assertEqual(source_row(PROGRAM_21, [17], steps), gone(PROGRAM_21, [17], steps).row)


class Wraps(unittest.TestCase):

    def wraps(self, *body, inputs=(), size=10):
        run = gone(main_only(*body, size=size), inputs, 1000)
        self.assertEqual(run.state, "stopped")
        return run.wraps

    def test_sums(self):
        for word, one, other, many in (
            ("plus", 4, 5, 0), ("plus", 5, 5, 1), ("plus", 9, 9, 1),
            ("minus", 5, 5, 0), ("minus", 5, 6, 1), ("minus", 0, 9, 1),
            ("times", 3, 3, 0), ("times", 2, 5, 1), ("times", 9, 9, 1), ("times", 0, 9, 0),
            ("rest", 9, 0, 0), ("rest", 7, 3, 0), ("less", 9, 1, 0), ("same", 9, 9, 0),
        ):
            self.assertEqual(self.wraps(("show", 0, (word, ("number", one), ("number", other)))), many)

    def test_takes(self):
        take = ("take", "x")
        for inputs, many in (([9], 0), ([10], 1), ([9999], 1), ([0, 10, 5, 20], 2), ([], 0)):
            self.assertEqual(self.wraps(take, take, take, take, inputs=inputs), many)
        self.assertEqual(self.wraps(take, inputs=[9999], size=10000), 0)

    def test_each_step_counts(self):
        body = ("while", X, (("let", "x", ("minus", X, ONE)), ("let", "y", ("minus", ZERO, ONE))))
        self.assertEqual(self.wraps(("let", "x", THREE), body), 3)

    def test_indexes_do_not_count(self):
        run = gone(main_only(("put", "a", ("number", 9), ("cell", "a", ("number", 8))), arrays=[("a", (1, 2))]), [], 99)
        self.assertEqual((run.wraps, run.state), (0, "stopped"))

    def test_inputs_that_are_not_taken_do_not_count(self):
        self.assertEqual(self.wraps(("mark",), inputs=[9999]), 0)


class Going(unittest.TestCase):

    def test_any_portions(self):
        for at, program in enumerate([FULL, PROGRAM_16, PROGRAM_21] + some_programs(60, 40)):
            inputs = [at, 3, 12]
            whole = moments(Run(program, inputs), 60)
            run = Run(program, inputs)
            done = 0
            for portion in (0, 1, 5, 0, 13, 2, 30):
                self.assertEqual(moment(run), whole[done])
                run.go(portion)
                done += portion
            self.assertEqual(moment(run), whole[done])

    def test_no_steps(self):
        run = Run(PROGRAM_21, [17])
        self.assertIsNone(run.go(0))
        self.assertEqual(run.steps, 0)

    def test_many_steps(self):
        run = Run(main_only(("while", ONE, ())), [])
        run.go(100000)
        self.assertEqual((run.steps, run.state), (100000, "running"))

    def test_less_is_a_beginning_of_more(self):
        for program in some_programs(60, 40):
            row = source_row(program, [7, 8], 200)
            before = 0
            for steps in range(0, 200, 7):
                less = source_row(program, [7, 8], steps)
                self.assertEqual(row[:len(less)], less)
                self.assertTrue(before <= len(less) <= before + 7)
                before = len(less)

    def test_a_step_shows_at_most_one_item(self):
        for program in some_programs(60, 40):
            run = Run(program, [1, 2, 3])
            for _ in range(80):
                before = run.row
                run.go(1)
                self.assertEqual(run.row[:len(before)], before)
                self.assertLessEqual(len(run.row), len(before) + 1)
                self.assertEqual(len(run.sources), len(run.row))


class Reaching(unittest.TestCase):

    def test_lengths(self):
        for length, steps in ((0, 0), (1, 1), (2, 12), (3, 13)):
            run = Run(PROGRAM_21, [17])
            self.assertIs(run.reach(length, 1000), True)
            self.assertEqual((run.steps, len(run.row)), (steps, length))

    def test_not_enough_steps(self):
        run = Run(PROGRAM_21, [17])
        self.assertIs(run.reach(2, 11), False)
        self.assertEqual(run.steps, 11)
        self.assertIs(run.reach(2, 0), False)
        self.assertIs(run.reach(2, 1), True)
        self.assertIs(run.reach(1, 5), True)
        self.assertIs(run.reach(0, 5), True)
        self.assertIs(run.reach(2, 5), True)
        self.assertEqual(run.steps, 12)

    def test_a_row_that_is_too_short(self):
        run = Run(PROGRAM_21, [17])
        self.assertIs(run.reach(4, 1000), False)
        self.assertEqual((run.steps, run.state), (13, "stopped"))
        self.assertIs(run.reach(4, 1000), False)
        self.assertIs(run.reach(3, 0), True)
        self.assertIs(run.reach(10 ** 99, 1000000), False)

    def test_wrong_lengths(self):
        for length in (-1, True, False, None, "1", [1], (1,), {}, -10 ** 99):
            self.assertRaises(BadLength, Run(PROGRAM_21, []).reach, length, 1)

    def test_as_go(self):
        for program in some_programs(60, 40):
            run, other = Run(program, [4]), Run(program, [4])
            for length in range(4):
                told = run.reach(length, 50)
                for _ in range(50):
                    if len(other.row) < length:
                        other.go(1)
                self.assertEqual(moment(run), moment(other))
                self.assertEqual(told, len(other.row) >= length)


class Copies(unittest.TestCase):

    def test_at_the_same_moment(self):
        for program in [FULL, PROGRAM_16, OPEN] + some_programs(60, 40) + crowded_programs(20):
            run = gone(program, [5, 12], 17)
            twin = run.copy()
            self.assertEqual(twin.__class__, Run)
            self.assertEqual(moment(twin), moment(run))
            self.assertEqual(moments(twin, 60), moments(run, 60))

    def test_each_goes_its_own_way(self):
        run = gone(PROGRAM_21, [17, 4], 4)
        twin = run.copy()
        kept = moment(run)
        twin.set_cell("a", 0, 9)
        twin.set_local("f", "p", 1)
        twin.go(100)
        self.assertEqual((twin.row[1], twin.cells("a")), (("show", 2, 4), [9, 4]))
        self.assertEqual((moment(run), run.cells("a")), (kept, [3, 4]))
        twin = run.copy()
        run.set_cell("a", 0, 8)
        run.go(100)
        self.assertEqual((run.row[1], run.cells("a")), (("show", 2, 8), [8, 8]))
        self.assertEqual((moment(twin), twin.cells("a")), (kept, [3, 4]))

    def test_while_tests_are_open(self):
        program = main_only(("take", "x"), ("while", X, (("show", 0, ONE), ("take", "x"))))
        run = gone(program, [1, 1, 0], 4)
        twin = run.copy()
        run.go(100)
        self.assertEqual(len(twin.sources), 1)
        twin.go(100)
        self.assertEqual(moment(twin), moment(run))

    def test_the_sets_of_arrays_and_inputs_go_along(self):
        program = main_only(("if", Y, (), (("put", "a", ZERO, X), ("take", "x"))), ("show", 0, ("cell", "a", ONE)),
                            ("take", "z"), arrays=[("a", (1,))])
        run = gone(program, [4, 5], 6)
        self.assertEqual(len(run.row), 1)
        twin = run.copy()
        twin.go(100)
        x, y = ("local", "main", "x"), ("local", "main", "y")
        self.assertEqual(twin.sources, [(y, TAKES), (("array", "a"), x, y), (y, TAKES), ()])
        self.assertEqual(len(run.sources), 1)

    def test_behind_the_end(self):
        run = gone(PROGRAM_21, [17], 100)
        self.assertEqual(moment(run.copy()), moment(run))

    def test_copies_of_copies(self):
        run = gone(PROGRAM_21, [17], 3)
        twin = run.copy().copy()
        run.go(100)
        twin.go(100)
        self.assertEqual(moment(twin), moment(run))


class SettingLocals(unittest.TestCase):

    def test_at_once(self):
        run = gone(OPEN, [], 2)
        run.set_local("main", "x", 7)
        self.assertEqual(run.steps, 2)
        run.go(100)
        self.assertEqual([item[2] for item in run.row[:-1]], [2, 0, 7, 2, 0, 7])

    def test_in_an_outer_running(self):
        run = gone(OPEN, [], 5)
        self.assertEqual(run.place[0], "f")
        run.set_local("main", "x", 8)
        run.set_local("f", "p", 9)
        run.set_local("f", "z", 6)
        run.go(100)
        self.assertEqual([item[2] for item in run.row[:-1]], [9, 6, 8, 2, 0, 8])

    def test_in_one_running_alone(self):
        show = ("show", 0, X)
        program = main_only(("let", "y", ("run", "f", ())), show, functions=[("f", (), (show,))])
        for part, numbers in (("main", [0, 7]), ("f", [7, 0])):
            run = gone(program, [], 1)
            run.set_local(part, "x", 7)
            run.go(100)
            self.assertEqual([item[2] for item in run.row[:-1]], numbers)

    def test_where_no_running_is_open(self):
        run = gone(OPEN, [], 2)
        run.set_local("f", "z", 6)
        run.set_local("f", "p", 6)
        run.set_local("g", "p", 6)
        run.go(100)
        self.assertEqual([item[2] for item in run.row[:-1]], [2, 0, 1, 2, 0, 1])

    def test_behind_the_end(self):
        run = gone(OPEN, [], 1000)
        kept = moment(run)
        self.assertIsNone(run.set_local("main", "x", 5))
        self.assertEqual(moment(run), kept)

    def test_a_local_that_was_not_set(self):
        program = main_only(("show", 0, ("local", "never")), ("show", 1, ("local", "never")))
        run = Run(program, [])
        run.set_local("main", "never", 4)
        run.go(2)
        run.set_local("main", "never", 5)
        run.go(2)
        self.assertEqual(run.row, [("show", 0, 4), ("show", 1, 5)])

    def test_no_sets_are_changed(self):
        program = main_only(("take", "x"), ("let", "y", X), ("show", 0, Y))
        run = gone(program, [1], 3)
        run.set_local("main", "y", 9)
        run.go(2)
        self.assertEqual(run.row[1], ("show", 0, 9))
        self.assertEqual(run.sources[1], (("local", "main", "x"), ("local", "main", "y"), ("takes",)))
        self.assertEqual(run.wraps, 0)

    def test_wrong_parts(self):
        run = Run(OPEN, [])
        for part in STRANGE + ("a", "h", "Main"):
            with self.assertRaises(NoPart) as caught:
                run.set_local(part, "x", 1)
            self.assertIs(caught.exception.part, part)

    def test_wrong_names(self):
        """A local of a part is one of its params or stands in a let, take or local node of it."""
        program = main_only(("let", "u", ("run", "f", (ONE,))), ("take", "v"), ("put", "a", ("local", "w"), ONE),
                            ("while", ONE, (("if", ONE, (), (("show", 0, ("plus", ("local", "y"), ONE)),)),)),
                            arrays=[("a", (1,))], functions=[("f", ("p",), (("let", "q", ONE),))])
        run = Run(program, [])
        for x in ("u", "v", "w", "y"):
            run.set_local("main", x, 1)
        for x in ("p", "q"):
            run.set_local("f", x, 1)
        for x in STRANGE + ("p", "q", "a", "f", "main", ("u",), ["u"]):
            self.assertRaises(BadName, run.set_local, "main", x, 1)
        for x in ("u", "v", "w", "y", "f", "a", None):
            self.assertRaises(BadName, run.set_local, "f", x, 1)

    def test_wrong_numbers(self):
        run = Run(OPEN, [])
        for number in (-1, 10, True, False, None, "1", [1], (1,)):
            self.assertRaises(BadNumber, run.set_local, "main", "x", number)
            self.assertRaises(BadNumber, run.set_local, "f", "p", number)

    def test_errors_also_behind_the_end(self):
        run = gone(OPEN, [], 1000)
        self.assertRaises(NoPart, run.set_local, "h", "n", -1)
        self.assertRaises(BadName, run.set_local, "main", "n", -1)
        self.assertRaises(BadNumber, run.set_local, "main", "x", -1)


class SettingCells(unittest.TestCase):

    def test_at_once(self):
        program = main_only(("show", 0, ("cell", "a", ONE)), ("show", 1, ("cell", "a", ONE)), arrays=[("a", (1, 2))])
        run = gone(program, [], 1)
        run.set_cell("a", 1, 9)
        self.assertEqual((run.cells("a"), run.steps), ([1, 9], 1))
        run.go(2)
        run.set_cell("a", 1, 8)
        run.go(100)
        self.assertEqual(run.row, [("show", 0, 9), ("show", 1, 8), STOP])

    def test_behind_the_end(self):
        run = gone(OPEN, [], 1000)
        kept = moment(run)
        self.assertIsNone(run.set_cell("a", 0, 5))
        self.assertEqual(run.cells("a"), [5, 2])
        self.assertEqual(moment(run), kept)

    def test_no_sets_are_changed(self):
        body = (("take", "x"), ("put", "a", ZERO, X), ("show", 0, ("cell", "a", ZERO)))
        program = main_only(*body, arrays=[("a", (1,))])
        run = gone(program, [1], 4)
        run.set_cell("a", 0, 9)
        run.go(3)
        self.assertEqual(run.row[1], ("show", 0, 9))
        self.assertEqual(run.sources[1], (("array", "a"), ("local", "main", "x"), ("takes",)))

    def test_wrong_values(self):
        run = Run(OPEN, [])
        for array in STRANGE + ("f", "x", "main", ("a",), ["a"]):
            self.assertRaises(BadArray, run.set_cell, array, 0, 1)
        for index in (-1, 2, True, False, None, "0", [0], (0,), 10 ** 99):
            self.assertRaises(BadIndex, run.set_cell, "a", index, 1)
        for number in (-1, 10, True, False, None, "1", [1], (1,)):
            self.assertRaises(BadNumber, run.set_cell, "a", 1, number)
        self.assertEqual(run.cells("a"), [1, 2])


class Facts(unittest.TestCase):

    def test_zeros_behind_the_inputs_change_nothing_but_left(self):
        for program in some_programs(80, 40):
            for inputs in ([], [4], [13, 2]):
                run, other = Run(program, inputs), Run(program, inputs + [0, 0, 0])
                for _ in range(60):
                    run.go(1)
                    other.go(1)
                    self.assertEqual(moment(run)[:3] + moment(run)[4:], moment(other)[:3] + moment(other)[4:])

    def test_a_run_hangs_on_the_inputs_that_it_takes_alone(self):
        for program in some_programs(80, 40):
            run = gone(program, [4, 13, 2, 6], 60)
            taken = 4 - len(run.left)
            if taken < 4:
                other = gone(program, [4, 13, 2, 6][:taken] + [9] * 5, 60)
                self.assertEqual((run.row, run.sources, run.place), (other.row, other.sources, other.place))

    def test_sizes(self):
        """As long as wraps is 0, a run with any greater size does the same."""
        many = 0
        for program in some_programs(150, 40) + [PROGRAM_16]:
            for size in (min(program[0] + 1, 10000), max(program[0], 5000), 10000):
                run, other = Run(program, [1, 2]), Run(resized(program, size), [1, 2])
                while run.wraps == 0 and run.steps < 60 and run.state == "running":
                    self.assertEqual(moment(run), moment(other))
                    for name, _ in program[1]:
                        self.assertEqual(run.cells(name), other.cells(name))
                    many += 1
                    run.go(1)
                    other.go(1)
        self.assertGreater(many, 1000)

    def test_no_tests(self):
        """Without if and while an item stays the same if what its set lacks is exchanged."""
        stays = 0
        for program in some_programs(200, 40, False):
            run = gone(program, [1, 2], 300)
            for at, carriers in enumerate(run.sources):
                for array, numbers in program[1]:
                    if ("array", array) not in carriers:
                        others = tuple([(number + 1) % program[0] for number in numbers])
                        arrays = tuple([(name, others if name == array else old) for name, old in program[1]])
                        self.assertEqual(gone((program[0], arrays) + program[2:], [1, 2], 300).row[at], run.row[at])
                        stays += 1
                if ("takes",) not in carriers:
                    self.assertEqual(gone(program, [5, 0, 7], 300).row[at], run.row[at])
                    stays += 1
        self.assertGreater(stays, 300)


if __name__ == "__main__":
    unittest.main()
