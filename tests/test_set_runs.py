"""What flows tell of runs: [62], and FLOWS of [21]."""

import random
import unittest

from hueward.flows import flows, reached, things
from hueward.meaning import Run
from hueward.progtexts import program_of
from tests.samples import FULL, PROGRAM_16, PROGRAM_21, crowded_programs, lines, some_programs


def shown_at(run, thing):
    """What a run has shown at a port, or the numbers that it took."""
    if thing[0] == "port":
        return [item[2] for item in run.row if item[0] == "show" and item[1] == thing[1]]
    return [item[1] for item in run.row if item[0] == "take"]


def set_thing(run, program, thing, chance):
    """Sets a local or array of a run to something."""
    number = chance.randrange(program[0])
    if thing[0] == "local":
        run.set_local(thing[1], thing[2], number)
    else:
        run.set_cell(thing[1], chance.randrange(len(run.cells(thing[1]))), number)


def reaching(program, thing):
    """The set of the things that reach a thing."""
    found = {thing}
    waiting = [thing]
    ahead = {}
    for first, last in flows(program):
        ahead.setdefault(last, []).append(first)
    while waiting:
        for first in ahead.get(waiting.pop(), []):
            if first not in found:
                found.add(first)
                waiting.append(first)
    return found


def settable(program, thing):
    """The locals and arrays of a program that do not reach a thing."""
    found = reaching(program, thing)
    return [one for one in things(program) if one[0] in ("local", "array") and one not in found]


def set_run(program, inputs, some, steps, chance):
    """A run behind so many steps, in which some things were set now and then."""
    run = Run(program, inputs)
    while run.steps < steps and run.state == "running":
        if chance.random() < 0.6:
            set_thing(run, program, chance.choice(some), chance)
        run.go(chance.randint(0, 3))
    return run


class SetRuns(unittest.TestCase):

    def check(self, program, inputs, thing, some, chance):
        """Compares a run in which these things are set with one in which none is; whether they came to differ."""
        one = set_run(program, inputs, some, 120, chance)
        other = Run(program, inputs)
        other.go(chance.choice((20, 120, 400)))
        first, second = shown_at(one, thing), shown_at(other, thing)
        short = min(len(first), len(second))
        self.assertEqual(first[:short], second[:short])
        for run, length in ((one, len(first)), (other, len(second))):
            self.assertFalse(run.state == "stopped" and length < max(len(first), len(second)))
        if not reaching(program, ("loops",)).intersection(some):
            one.go(3000)
            other.go(3000)
            self.assertTrue(shown_at(one, thing)[:len(second)] == second)
            self.assertTrue(shown_at(other, thing)[:len(first)] == first)
        return one.row[:len(other.row)] != other.row[:len(one.row)]

    def test_things_that_do_not_reach(self):
        tried = parted = loops = 0
        for at, program in enumerate(some_programs(250, 60) + crowded_programs(40)):
            chance = random.Random(at)
            inputs = [chance.randrange(10000) for _ in range(6)]
            for thing in [one for one in things(program) if one[0] in ("port", "takes")]:
                some = settable(program, thing)
                if not some:
                    continue
                tried += 1
                parted += self.check(program, inputs, thing, some, chance)
                looping = reaching(program, ("loops",))
                some = [one for one in some if one not in looping]
                if some:
                    loops += 1
                    self.check(program, inputs, thing, some, chance)
        self.assertGreater(tried, 300)
        self.assertGreater(parted, 50)
        self.assertGreater(loops, 200)

    def test_a_loop_that_is_kept_up(self):
        program = program_of(lines("size 10", "main", "  take x", "  show 0 x", "  while y", "    z = 1", "  show 1 x"))
        self.assertEqual(settable(program, ("port", 1)), [("local", "main", "y"), ("local", "main", "z")])
        one, other = Run(program, [7]), Run(program, [7])
        one.set_local("main", "y", 1)
        one.go(1000)
        other.go(1000)
        self.assertEqual((one.state, shown_at(one, ("port", 0)), shown_at(one, ("port", 1))), ("running", [7], []))
        self.assertEqual((other.state, shown_at(other, ("port", 1))), ("stopped", [7]))
        self.assertIn(("loops",), reached(program, ("local", "main", "y")))
        self.assertNotIn(("loops",), reached(program, ("local", "main", "z")))

    def test_what_reaches_does_change(self):
        program = program_of(lines("size 10", "array a 5", "main", "  if x", "    stop", "  take z", "  show 1 a[0]"))
        for thing in (("local", "main", "x"), ("array", "a")):
            self.assertIn(("port", 1), reached(program, thing))
        run = Run(program, [3])
        run.set_local("main", "x", 1)
        run.go(100)
        self.assertEqual(run.row, [("stop",)])
        run = Run(program, [3])
        run.set_cell("a", 0, 6)
        run.go(100)
        self.assertEqual(run.row, [("take", 3), ("show", 1, 6), ("stop",)])


class Carriers(unittest.TestCase):
    """The fact FLOWS of [21]."""

    def test_they_reach_the_port(self):
        seen = 0
        programs = some_programs(300, 80) + crowded_programs(100) + [FULL, PROGRAM_16, PROGRAM_21]
        for at, program in enumerate(programs):
            run = Run(program, [(at * 7 + k * 13) % 10000 for k in range(8)])
            run.go(300)
            found = {}
            for item, carriers in zip(run.row, run.sources):
                if item[0] != "show":
                    continue
                port = ("port", item[1])
                if port not in found:
                    found[port] = reaching(program, port)
                for carrier in carriers:
                    seen += 1
                    self.assertIn(carrier, found[port])
        self.assertGreater(seen, 500)


if __name__ == "__main__":
    unittest.main()
