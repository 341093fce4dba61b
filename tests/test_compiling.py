"""Compiled programs: how large they are, what they show and when: [31], [32], [36]."""

import random
import unittest

from hueward.codes import is_code
from hueward.compiling import compiled
from hueward.errors import BadProgram, BadVotes, BadWidths, TooLarge
from hueward.flows import things
from hueward.machine import Machine, first_parting
from hueward.meaning import Run
from tests.coding import ALL_VOTES
from tests.compiling import ALL_RUNS, HAND_MADE, LOOPS, RUNS, all_programs, bound, digits, fit_widths, full_runs
from tests.compiling import machine_of, made, many_runs, run_of, sums
from tests.samples import FULL, PROGRAM_21, STRANGE, crowded_programs, main_only, some_programs

SOME_VOTES = ((1,), (1, 2), (1, 2, 2), (1, 2, 3), (1, 2, 2, 3, 3))
STOP = ("stop",)


def inputs_for(at):
    """Some inputs."""
    chance = random.Random(at)
    return [chance.choice((chance.randrange(10000), chance.randrange(12))) for _ in range(8)]


class Rows(unittest.TestCase):
    """Rows of compiled programs beside those of Run."""

    def compare(self, program, votes, inputs, steps):
        """Compares item by item; how many items there were, or None if the code would be too large."""
        code = made(program, votes)
        if code is None:
            return None
        run = Run(program, inputs)
        machine = Machine(code, inputs)
        self.assertTrue(is_code(code))
        self.assertEqual(code[:2], (votes, program[0]))
        most = bound(program) * len(votes)
        last = last_done = 0
        while run.state == "running" and run.steps < steps:
            many = len(run.row)
            run.go(1)
            if len(run.row) == many:
                continue
            allowed = (run.steps - last + 1) * most
            while len(machine.row) <= many and machine.state == "running" and machine.steps - last_done < allowed:
                machine.go(1)
            self.assertEqual(machine.row, run.row)
            self.assertGreaterEqual(machine.steps, run.steps)
            last, last_done = run.steps, machine.steps
        self.assertEqual((machine.state, machine.left), (run.state, run.left))
        return len(run.row)

    def test_made_by_hand(self):
        for at, program in enumerate(HAND_MADE):
            for votes in SOME_VOTES:
                self.compare(program, votes, inputs_for(at), 2000)

    def test_runs_from_everywhere(self):
        for program in RUNS:
            for votes in SOME_VOTES:
                for at in range(0, 30, 1 + 4 * len(votes)):
                    self.assertGreater(self.compare(program, votes, [at % 10, at // 3], 800), 2)
        for at in range(0, 30, 3):
            self.assertGreater(self.compare(ALL_RUNS, (1,), [at % 10, at // 3], 1500), 10)

    def test_loops_within_loops(self):
        for votes in SOME_VOTES[:4]:
            for inputs in ([], [1], [2], [4, 3], [7], [9999]):
                self.assertGreater(self.compare(LOOPS, votes, inputs, 4000), 1)

    def test_ways_back(self):
        for size in (2, 3, 10, 10000):
            for many in range(1, 36):
                self.assertEqual(self.compare(many_runs(size, many), (1,), [], 5000), many + 1)

    def test_at_random(self):
        seen = 0
        for at, program in enumerate(some_programs(250, 60) + some_programs(60) + crowded_programs(60)):
            for votes in (SOME_VOTES[at % 5], (1,)):
                seen += self.compare(program, votes, inputs_for(at), 300) or 0
        self.assertGreater(seen, 1000)

    def test_all_votes(self):
        for votes in ALL_VOTES:
            self.assertEqual(self.compare(PROGRAM_21, votes, [17], 100), 3)
            self.compare(FULL, votes, [5], 500)

    def test_what_never_stops(self):
        for program in (
            main_only(("while", ("number", 1), ())),
            main_only(("while", ("number", 1), (("take", "x"), ("show", 0, ("local", "x"))))),
        ):
            for votes in SOME_VOTES:
                machine = machine_of(compiled(program, votes), [1, 2], 3000)
                self.assertEqual(machine.state, "running")
                self.assertEqual(machine.row[:20], run_of(program, [1, 2], 300).row[:20])

    def test_no_first_parting(self):
        for at, program in enumerate(all_programs(120, 40)):
            code = made(program, SOME_VOTES[at % 5])
            if code is not None:
                self.assertIsNone(first_parting(code, inputs_for(at), 3000))

    def test_marks_are_settled(self):
        program = main_only(("mark",), ("show", 0, ("number", 1)), ("mark",))
        for votes in SOME_VOTES:
            self.assertEqual([cell for cell in compiled(program, votes)[2] if cell == ("mark",)], [("mark",)] * 2)


class Sizes(unittest.TestCase):

    def test_at_most_so_many_cells(self):
        programs = all_programs(100, 50) + [many_runs(2, many) for many in range(39)]
        for at, program in enumerate(programs):
            cells, bank = sums(program)
            for votes in ((1,), SOME_VOTES[1 + at % 4]):
                code = made(program, votes)
                self.assertEqual(code is None, len(votes) * cells > 4000 or bank > 600)
                if code is not None:
                    self.assertLessEqual(len(code[2]), len(votes) * cells)
                    self.assertLessEqual(len(code[3]), bank)

    def test_digits(self):
        for size, many, right in ((2, 1, 0), (2, 2, 1), (2, 3, 2), (2, 4, 2), (2, 5, 3), (3, 9, 2), (3, 10, 3),
                                  (10, 10, 1), (10, 11, 2)):
            self.assertEqual(digits(many_runs(size, many), "f"), right)

    def filled(self, many, parts, locals_many=0):
        """A program of so many parts with so many nodes and locals altogether."""
        body = [("take", "x" + str(at)) for at in range(locals_many)] + [STOP] * (many - locals_many)
        bodies = [tuple(body[at * 120:at * 120 + 120]) for at in range(parts)]
        functions = tuple([("f" + str(at), (), bodies[at + 1]) for at in range(parts - 1)])
        return (10, (), functions, bodies[0])

    def check(self, program, hues, fits):
        """Whether the code of a program is too large for so many hues, and fits for one that adds nothing."""
        votes = [votes for votes in ALL_VOTES if len(votes) == hues][0]
        chance = random.Random(hues)
        for widths in (None, fit_widths(program, hues, chance), fit_widths(program, hues, chance)):
            if fits:
                self.assertTrue(is_code(compiled(program, votes, widths)))
            else:
                self.assertRaises(TooLarge, compiled, program, votes, widths)

    def test_just_as_many_cells(self):
        for hues, many, parts, locals_many in (
            (1, 656, 7, 4), (1, 657, 7, 1), (2, 322, 4, 18), (3, 217, 3, 3), (4, 162, 2, 6), (5, 130, 2, 2),
            (5, 126, 3, 10),
        ):
            program = self.filled(many, parts, locals_many)
            cells = sums(program)[0]
            self.assertTrue(cells * hues <= 4000 < (cells + 2) * hues, (hues, cells))
            self.check(program, hues, True)
            # One local more, in the place of a stop.
            self.check(self.filled(many, parts, locals_many + 1), hues, False)

    def test_just_as_many_cells_with_runs(self):
        for size, runs in ((2, 1), (2, 2), (2, 3), (2, 5), (2, 9), (3, 9), (3, 10), (10, 10), (10, 11)):
            f = ("f", (), ())
            body = (("show", 0, ("run", "f", ())),) * runs
            many = digits((size, (), (f,), body), "f")
            cells = 2 * 8 + runs * (2 * 6 + 24 + 10 * many)
            for hues in (4, 5):
                # 4000 is divided by both; the rest is filled up with stops and locals.
                left = 4000 // hues - cells
                stops = 0
                while (left - 6 * stops) % 8 or (left - 6 * stops) // 8 > 60:
                    stops += 1
                takes = tuple([("take", "x" + str(at)) for at in range((left - 6 * stops) // 8)])
                for more in (0, 1):
                    inside = takes + (STOP,) * (stops + more)
                    program = (size, (), (("f", (), inside[:119]), ), body + inside[119:])
                    self.assertEqual(sums(program)[0], 4000 // hues + 6 * more)
                    self.check(program, hues, not more)

    def test_digits_of_several_functions(self):
        """Each function has digits for its own runs alone."""
        for runs_f, runs_g in ((1, 5), (5, 1), (2, 3), (4, 4)):
            functions = (("f", (), ()), ("g", (), ()))
            body = (("show", 0, ("run", "f", ())),) * runs_f + (("show", 0, ("run", "g", ())),) * runs_g
            cells = 3 * 8 + sum([36 * runs + 10 * runs * digits((2, (), functions, body), name)
                                 for name, runs in (("f", runs_f), ("g", runs_g))])
            self.assertEqual(sums((2, (), functions, body))[0], cells)
            # So many stops, in the functions too, that 800 are just reached or just not.
            many = (800 - cells) // 6
            for more in (0, 1):
                inside = (STOP,) * (many + more)
                program = (2, (), (("f", (), inside[:60]), ("g", (), inside[60:])), body)
                self.assertEqual(sums(program)[0] <= 800, not more)
                self.check(program, 5, not more)

    def test_just_as_many_bank_cells(self):
        arrays = tuple([("a" + str(at), (0,) * 64) for at in range(6)])
        for inner in (False, True):
            for more in (0, 1):
                # 384 of arrays, 14 of parts, 200 of parts with many nodes, 2 of one with few.
                bodies = [(STOP,) * (45 if inner else 40)] * 5 + [(STOP,) * (2 + more), ()]
                functions = tuple([("f" + str(at), (), body) for at, body in enumerate(bodies[1:])])
                program = (10, arrays, functions, bodies[0])
                self.assertEqual(sums(program)[1], 600 + more)
                for hues in (1, 2):
                    self.check(program, hues, not more)
        shorter = arrays[:5] + (("a5", (0,) * 61),)
        for more in (0, 1):
            # A local, which is a node too, and a digit that tells two runs.
            body = (("show", 0, ("run", "f0", ())),) * (1 + more)
            functions = (("f0", (), ()),) + tuple([("f" + str(at), (), (STOP,) * 40) for at in range(1, 6)])
            program = (10, shorter, functions, body + ((("take", "x"),) if not more else ()))
            self.assertEqual(sums(program)[1], 381 + 14 + 200 + (2 + 1 + 1 if not more else 4 + 1))
        program = (10, shorter, functions, body + (("take", "x"),) )
        self.assertEqual(sums(program)[1], 602)
        self.check(program, 2, False)

    def test_waiting_values(self):
        """The bank holds all that waits, of the deepest expressions too."""
        code = compiled(full_runs(), (1, 2))
        self.assertLessEqual(len(code[3]), sums(full_runs())[1])
        self.assertEqual(machine_of(code, [7], 10000).row, run_of(full_runs(), [7], 10000).row)


class Widths(unittest.TestCase):

    def test_full_widths_change_nothing(self):
        for at, program in enumerate(all_programs(60, 20)):
            votes = SOME_VOTES[at % 5]
            code = made(program, votes)
            if code is not None:
                widths = {thing: len(votes) for thing in things(program)}
                self.assertEqual(compiled(program, votes, widths), code)
                self.assertEqual(compiled(program, votes, widths=None), code)

    def test_equal_arguments_give_equal_codes(self):
        for program in HAND_MADE:
            widths = fit_widths(program, 2, random.Random(3))
            turned = {thing: widths[thing] for thing in reversed(list(widths))}
            self.assertEqual(made(program, (1, 2), widths), made(program, (1, 2), turned))
            self.assertEqual(made(program, (1, 2), widths), made(program, (1, 2), dict(widths)))


class Wrong(unittest.TestCase):

    def test_in_this_sequence(self):
        large = main_only(*[STOP] * 120)
        for bad in STRANGE + (list(FULL), FULL[:3]):
            self.assertRaises(BadProgram, compiled, bad, None, 7)
        for bad in STRANGE + ([1], (1, 1), (True,), (1, 2, 2, 3, 3, 4)):
            self.assertRaises(BadVotes, compiled, large, bad, 7)
        for bad in (7, True, (), [], "", {}, {("part", "main"): 5}):
            self.assertRaises(BadWidths, compiled, (10, (), large[2], large[3] + (STOP,) * 0), (1, 2, 2), bad)
        self.assertRaises(TooLarge, compiled, self.too_large(), (1, 2, 2, 3, 3), None)
        self.assertRaises(BadWidths, compiled, self.too_large(), (1, 2, 2, 3, 3), {})

    def too_large(self):
        return (10, (), (("f", (), (STOP,) * 120),), (STOP,) * 120)

    def test_widths_for_other_hues(self):
        widths = {thing: 3 for thing in things(PROGRAM_21)}
        compiled(PROGRAM_21, (1, 2, 2), widths)
        self.assertRaises(BadWidths, compiled, PROGRAM_21, (1, 2), widths)
        for thing in things(PROGRAM_21):
            for bad in (4, -1, True, None):
                self.assertRaises(BadWidths, compiled, PROGRAM_21, (1, 2, 2), dict(widths, **{}) | {thing: bad})
        del widths[("end",)]
        self.assertRaises(BadWidths, compiled, PROGRAM_21, (1, 2, 2), widths)


if __name__ == "__main__":
    unittest.main()
