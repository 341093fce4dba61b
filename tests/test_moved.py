"""Strikes that are moved along with schedules: [74]."""

import unittest

from hueward.errors import BadAddress, BadCode, BadInputs, BadSteps, BadStrikes, NotSchedule, OffLabels
from hueward.machine import Machine, struck
from hueward.schedules import is_schedule, moved_address, moved_strikes, schedule_at, schedules_many
from tests.coding import CODE_30, CodeMaker, coded
from tests.compiling import HAND_MADE, is_instruction_cell, made
from tests.plain_machine import PlainMachine, enough
from tests.samples import STRANGE
from tests.test_schedules import plain_stretches

# Two stretches with a settle between, and the same in another schedule.
ONE = coded(
    (0, "set", 0, 1), (0, "set", 1, 2), (0, "offer", 0), (1, "set", 0, 1), (1, "set", 1, 2), (1, "offer", 0),
    ("show", 0, 2), (1, "offer", 1), (0, "offer", 1), ("show", 0, 2), ("stop",),
)
OTHER = coded(
    (1, "set", 0, 1), (0, "set", 0, 1), (1, "set", 1, 2), (0, "set", 1, 2), (0, "offer", 0), (1, "offer", 0),
    ("show", 0, 2), (0, "offer", 1), (1, "offer", 1), ("show", 0, 2), ("stop",),
)


def visited(code, inputs, strikes, steps):
    """The address of each step of a struck run, None where its fetch is caught."""
    machine = PlainMachine(code, inputs, strikes)
    found = []
    while machine.state == "running" and machine.steps < steps:
        heads = [hue.pointer for hue in machine.hues]
        for step, hue, place, new in strikes:
            if step == machine.steps and place == ("pointer",):
                heads[hue] = new
        at = enough(heads, code[0][-1])
        found.append(at if at is not None and at < len(code[2]) else None)
        machine.step()
    return found


def first_off(code, ways):
    """The number of the first step at which a stretch is left ahead of its end, or come into amid."""
    for step, at in enumerate(ways):
        if at is None:
            continue
        last = ways[step - 1] if step else None
        amid = [part for part in plain_stretches(code) if last is not None and part[0] <= last < part[1] - 1]
        if amid and at != last + 1:
            return step
        into = [part for part in plain_stretches(code) if part[0] < at < part[1]]
        if into and not (amid and at == last + 1):
            return step
    return None


def some_strikes(maker, code, many, steps):
    """Strikes of which few are at pointers."""
    found = maker.strikes(code, many, steps)
    if maker.chance.random() < 0.7:
        found = [strike for strike in found if strike[2] != ("pointer",)]
    return found


class Addresses(unittest.TestCase):

    def test_by_hand(self):
        found = [moved_address(ONE, OTHER, at) for at in range(11)]
        self.assertEqual(found, [1, 3, 4, 0, 2, 5, 6, 8, 7, 9, 10])
        self.assertEqual([moved_address(OTHER, ONE, moved_address(ONE, OTHER, at)) for at in range(11)], list(range(11)))

    def test_random_codes(self):
        for seed in range(200):
            maker = CodeMaker(seed)
            code = maker.code()
            other = schedule_at(code, maker.chance.randrange(schedules_many(code)))
            found = [moved_address(code, other, at) for at in range(len(code[2]))]
            self.assertEqual(sorted(found), list(range(len(code[2]))))
            for at, moved in enumerate(found):
                self.assertEqual(code[2][at], other[2][moved])
                if not is_instruction_cell(code[2][at]):
                    self.assertEqual(at, moved)
            for first, end in plain_stretches(code):
                self.assertEqual(sorted(found[first:end]), list(range(first, end)))
                for hue in range(len(code[0])):
                    own = [found[at] for at in range(first, end) if code[2][at][0] == hue]
                    self.assertEqual(own, sorted(own))

    def test_errors_from_left_to_right(self):
        for bad in STRANGE:
            self.assertRaises(BadCode, moved_address, bad, None, None)
            self.assertRaises(NotSchedule, moved_address, ONE, bad, None)
        for bad in STRANGE + (11, -1, 4000):
            if bad.__class__ is not int or not 0 <= bad < 11:
                self.assertRaises(BadAddress, moved_address, ONE, OTHER, bad)
        self.assertRaises(BadAddress, moved_address, ONE, OTHER, True)
        self.assertRaises(NotSchedule, moved_address, ONE, CODE_30, 0)


class Numbers(unittest.TestCase):

    def moved(self, step, hue, place=("register", 5), new=1, steps=100):
        found = moved_strikes(ONE, [], [(step, hue, place, new)], OTHER, steps)
        self.assertEqual([strike[1:] for strike in found], [(hue, place, new)])
        return found[0][0]

    def test_hue_by_hue(self):
        """Ahead of its first instruction, amid, behind its last one, and at the settle."""
        self.assertEqual([self.moved(step, 0) for step in range(8)], [1, 3, 4, 6, 6, 6, 6, 7])
        self.assertEqual([self.moved(step, 1) for step in range(8)], [0, 0, 0, 0, 2, 5, 6, 8])
        self.assertEqual([self.moved(step, 0) for step in range(8, 11)], [7, 9, 10])
        self.assertEqual([self.moved(step, 1) for step in range(8, 11)], [9, 9, 10])

    def test_slots_and_instructions(self):
        self.assertEqual([self.moved(step, 0, ("slot",), 3) for step in range(8)], [1, 3, 4, 6, 6, 6, 6, 7])
        found = moved_strikes(ONE, [], [(1, 0, ("code", 2), (0, "offer", 1))], OTHER, 100)
        self.assertEqual(found, [(3, 0, ("code", 4), (0, "offer", 1))])
        found = moved_strikes(ONE, [], [(6, 1, ("code", 7), (1, "offer", 4))], OTHER, 100)
        self.assertEqual(found, [(6, 1, ("code", 8), (1, "offer", 4))])

    def test_pointers_keep_their_numbers(self):
        for step in (0, 2, 6, 10):
            self.assertEqual(self.moved(step, 0, ("pointer",), step), step)

    def test_never_beyond_the_last_step_done(self):
        self.assertEqual([self.moved(step, 0, steps=4) for step in range(4)], [1, 3, 3, 3])
        self.assertEqual(moved_strikes(ONE, [], [(4, 0, ("slot",), 1)], OTHER, 4), [])
        self.assertEqual(moved_strikes(ONE, [], [(11, 0, ("slot",), 1)], OTHER, 100), [])
        self.assertEqual(moved_strikes(ONE, [], [(0, 0, ("slot",), 1)], OTHER, 0), [])

    def test_sorted_and_in_their_sequence(self):
        strikes = [(0, 1, ("register", 1), 1), (2, 0, ("register", 1), 2), (2, 1, ("register", 2), 3),
                   (3, 1, ("slot",), 4), (3, 0, ("register", 0), 5), (6, 0, ("register", 1), 6),
                   (6, 1, ("register", 1), 7)]
        self.assertEqual(moved_strikes(ONE, [], strikes, OTHER, 100), [
            (0, 1, ("register", 1), 1), (0, 1, ("register", 2), 3), (0, 1, ("slot",), 4), (4, 0, ("register", 1), 2),
            (6, 0, ("register", 0), 5), (6, 0, ("register", 1), 6), (6, 1, ("register", 1), 7),
        ])
        self.assertEqual(moved_strikes(ONE, [], tuple(strikes), OTHER, 100), moved_strikes(ONE, [], strikes, OTHER, 100))

    def test_a_caught_fetch_keeps_them(self):
        strikes = [(2, 0, ("pointer",), 9), (2, 0, ("register", 1), 3), (2, 1, ("slot",), 1)]
        self.assertEqual(moved_strikes(ONE, [], strikes, OTHER, 100), strikes)
        # One ahead of it is moved, but not beyond it.
        found = moved_strikes(ONE, [], [(1, 0, ("register", 1), 4)] + strikes, OTHER, 100)
        self.assertEqual(found, [(2, 0, ("register", 1), 4)] + strikes)


class Off(unittest.TestCase):

    def off(self, strikes, steps=100, code=ONE, other=OTHER):
        try:
            moved_strikes(code, [], strikes, other, steps)
        except OffLabels as caught:
            return caught.step
        return None

    def both(self, step, at):
        return [(step, hue, ("pointer",), at) for hue in (0, 1)]

    def test_left_ahead_of_its_end(self):
        self.assertEqual(self.off(self.both(2, 6)), 2)
        self.assertEqual(self.off(self.both(2, 0)), 2)
        self.assertEqual(self.off(self.both(2, 7)), 2)
        self.assertEqual(self.off(self.both(5, 6)), 5)
        self.assertIsNone(self.off(self.both(2, 2)))
        self.assertIsNone(self.off(self.both(2, 6), 2))
        self.assertEqual(self.off(self.both(2, 6), 3), 2)

    def test_come_into_amid(self):
        self.assertEqual(self.off(self.both(0, 1)), 0)
        self.assertEqual(self.off(self.both(6, 8)), 6)
        self.assertEqual(self.off(self.both(7, 8)), 7)
        self.assertEqual(self.off(self.both(10, 3)), 10)

    def test_neither(self):
        self.assertIsNone(self.off(self.both(0, 7)))
        self.assertIsNone(self.off(self.both(0, 6)))
        self.assertIsNone(self.off(self.both(6, 7)))
        self.assertIsNone(self.off(self.both(6, 0)))
        self.assertIsNone(self.off(self.both(10, 0) + self.both(16, 10)))

    def test_caught_by_the_fetch(self):
        self.assertIsNone(self.off(self.both(2, 6)[:1]))
        self.assertIsNone(self.off(self.both(2, 11)))
        self.assertIsNone(self.off(self.both(2, 9999)))

    def test_a_caught_settle(self):
        """All pointers go to a show whose slots are empty."""
        self.assertEqual(self.off(self.both(1, 6)), 1)
        self.assertEqual(struck(ONE, [], self.both(1, 6), 100).steps, 2)
        # From a settle to a settle that is caught no stretch is left.
        self.assertIsNone(self.off(self.both(0, 6)))

    def test_the_first_one_is_told(self):
        self.assertEqual(self.off(self.both(2, 0) + self.both(4, 7)), 2)

    def test_random_runs(self):
        seen = {None: 0, "off": 0}
        for seed in range(500):
            maker = CodeMaker(seed)
            code = maker.alike() if seed % 2 else maker.code()
            strikes = maker.strikes(code, 6, 20)
            where = maker.chance.randrange(len(code[2]))
            if seed % 3:
                step = maker.chance.randrange(20)
                strikes += [(step, hue, ("pointer",), where) for hue in range(len(code[0]))]
                strikes.sort(key=lambda strike: strike[0])
            steps = maker.chance.randrange(30)
            found = self.off(strikes, steps, code, code)
            self.assertEqual(found, first_off(code, visited(code, [], strikes, steps)))
            seen[None if found is None else "off"] += 1
        self.assertGreater(min(seen.values()), 50, seen)


class Heart(unittest.TestCase):

    def check(self, code, other, inputs, strikes, steps):
        """Whether the strikes are moved; if so, both runs are alike."""
        try:
            moved = moved_strikes(code, inputs, strikes, other, steps)
        except OffLabels:
            return False
        one = struck(code, inputs, strikes, steps)
        two = struck(other, inputs, moved, one.steps)
        self.assertEqual((two.row, two.state, two.left, two.steps), (one.row, one.state, one.left, one.steps))
        self.assertEqual(len(moved), len([strike for strike in strikes if strike[0] < one.steps]))
        ways = visited(other, inputs, moved, one.steps)
        self.assertEqual(ways, visited(code, inputs, strikes, one.steps))
        if len(ways) and ways[-1] is not None and not is_instruction_cell(code[2][ways[-1]]) and one.state != "running":
            self.assertEqual([hue[:2] for hue in one.moment()[0]], [hue[:2] for hue in two.moment()[0]])
        return True

    def test_random_codes(self):
        done = 0
        for seed in range(1500):
            maker = CodeMaker(seed, 16)
            code = maker.alike() if seed % 2 else maker.code()
            other = schedule_at(code, maker.chance.randrange(schedules_many(code)))
            inputs = maker.inputs()
            strikes = some_strikes(maker, code, maker.chance.randint(1, 12), maker.chance.choice((5, 20, 60)))
            for steps in (maker.chance.randrange(60), 100):
                done += code != other and self.check(code, other, inputs, strikes, steps)
        self.assertGreater(done, 500)

    def test_compiled_codes(self):
        done = 0
        for at, program in enumerate(HAND_MADE[:16]):
            code = made(program, ((1, 2), (1, 2, 2), (1, 2, 3))[at % 3])
            if code is None:
                continue
            maker = CodeMaker(at)
            for _ in range(6):
                other = schedule_at(code, maker.chance.randrange(schedules_many(code)))
                strikes = some_strikes(maker, code, 6, 150)
                done += self.check(code, other, [3, 1, 4], strikes, maker.chance.choice((20, 200, 600)))
        self.assertGreater(done, 30)

    def test_there_and_back(self):
        """What is moved does the same in the code again, although numbers may be others."""
        for seed in range(150):
            maker = CodeMaker(seed, 16)
            code = maker.alike()
            other = schedule_at(code, maker.chance.randrange(schedules_many(code)))
            strikes = [strike for strike in maker.strikes(code, 5, 30) if strike[2] != ("pointer",)]
            moved = moved_strikes(code, [], strikes, other, 50)
            back = moved_strikes(other, [], moved, code, 50)
            one, two = Machine(code, [], strikes), Machine(code, [], back)
            one.go(50)
            two.go(50)
            self.assertEqual((one.row, one.state, one.steps), (two.row, two.state, two.steps))
            self.assertTrue(is_schedule(other, code))


class Errors(unittest.TestCase):

    def test_from_left_to_right(self):
        for bad in STRANGE:
            self.assertRaises(BadCode, moved_strikes, bad, None, None, None, None)
            self.assertRaises(NotSchedule, moved_strikes, ONE, [], [], bad, None)
        self.assertRaises(BadInputs, moved_strikes, ONE, None, None, None, None)
        for bad, at in ((None, None), ([1], 0), ([(0, 0, ("slot",), 10)], 0)):
            with self.assertRaises(BadStrikes) as caught:
                moved_strikes(ONE, [], bad, None, None)
            self.assertEqual(caught.exception.at, at)
        self.assertRaises(NotSchedule, moved_strikes, ONE, [], [], CODE_30, None)
        for bad in (None, True, -1, 1000001, "1"):
            self.assertRaises(BadSteps, moved_strikes, ONE, [], [], OTHER, bad)


if __name__ == "__main__":
    unittest.main()
