"""Machines that hold their items back: [52] to [54]."""

import unittest

from hueward.errors import BadCheckpoint, BadCode, BadHue, BadInputs, BadNew, BadPlace, BadSteps, BadStrikes
from hueward.machine import Machine
from hueward.marks import Kept, is_checkpoint, resumed
from tests.coding import CODE_30, FULL_CODE, CodeMaker, coded
from tests.plain_kept import PlainKept
from tests.samples import STRANGE

# The example of [53].
CODE_53 = coded(
    (0, "set", 0, 7), (1, "set", 0, 7), (0, "offer", 0), (1, "offer", 0), ("show", 1, 2), ("mark",), ("stop",),
)
# Takes and shows for ever, three numbers ahead of each mark.
LOOP = coded(
    ("take", 0, 3), (0, "put", 0, 1, 0, 2), (1, "put", 0, 1, 0, 2), (2, "put", 0, 1, 0, 2),
    (0, "offer", 0), (1, "offer", 0), (2, "offer", 0), ("show", 0, 3), ("take", 2, 3), ("mark",), ("goto", 0),
    votes=(1, 2, 2), bank=(5, 6),
)


def told(kept):
    """All that a Kept tells."""
    return (kept.out, kept.held, kept.state, kept.steps, kept.left, kept.kept, kept.legs)


class Beginnings(unittest.TestCase):

    def test_ahead_of_the_first_step(self):
        kept = Kept(FULL_CODE, [17, 9999])
        first = (0, (0,) * 8, (0, 1, 2, 3, 4, 5, 99), (17, 9999))
        self.assertEqual(told(kept), ([], [], "running", 0, [17, 9999], first, []))
        self.assertEqual(told(Kept(CODE_30, ())), ([], [], "running", 0, [], (0, (0,) * 8, (), ()), []))

    def test_strikes_may_be_left_out(self):
        for strikes in ((), []):
            self.assertEqual(told(Kept(CODE_53, [1], strikes)), told(Kept(CODE_53, [1])))

    def test_errors_from_left_to_right(self):
        for bad in STRANGE:
            self.assertRaises(BadCode, Kept, bad, None, None)
        for bad in (None, [True], [10000], {}, "1"):
            self.assertRaises(BadInputs, Kept, CODE_53, bad, None)
        for bad, at in ((None, None), ([(0, 0, ("slot",), 10)], 0), ([(1, 0, ("slot",), 1), (0, 0, ("slot",), 1)], 1),
                        ([(0, 0, ("slot",), 1)] * 401, None)):
            with self.assertRaises(BadStrikes) as caught:
                Kept(CODE_53, [], bad)
            self.assertEqual(caught.exception.at, at)


class Steps(unittest.TestCase):

    def test_the_example(self):
        kept = Kept(CODE_53, [], [(2, 1, ("register", 0), 8)])
        kept.go(4)
        self.assertEqual((kept.held, kept.out, kept.legs, kept.steps), ([], [], [], 4))
        kept.go(1)
        self.assertEqual((kept.state, kept.steps, kept.legs), ("running", 5, [(5, (1,), "back")]))
        kept.go(1000)
        self.assertEqual(kept.steps, 12)
        self.assertEqual(kept.out, [("show", 1, 7), ("stop",)])
        self.assertEqual(kept.legs, [(5, (1,), "back"), (6, (), "kept"), (1, (), "stopped")])
        self.assertEqual((kept.state, kept.held), ("stopped", []))
        self.assertEqual(kept.kept, (6, (7,) + (0,) * 7, (), ()))

    def test_behind_each_step(self):
        kept = Kept(LOOP, [3, 14, 5])
        seen = []
        for _ in range(11):
            kept.go(1)
            seen.append((len(kept.out), len(kept.held), len(kept.left), kept.kept[0], len(kept.legs)))
        held = [(0, 1, 2, 0, 0)] * 7 + [(0, 2, 2, 0, 0), (0, 3, 1, 0, 0)]
        self.assertEqual(seen, held[:7] + held[7:] + [(3, 0, 1, 10, 1)] * 2)
        self.assertEqual(kept.out, [("take", 3), ("show", 0, 3), ("take", 4)])
        self.assertEqual(kept.kept, (10, (3, 0, 4) + (0,) * 5, (3, 6), (5,)))
        self.assertEqual(kept.legs, [(10, (), "kept")])

    def test_stop_gives_out_what_is_held(self):
        code = coded(("take", 0, 1), ("mark",), ("take", 0, 1), ("stop",), votes=(1,))
        kept = Kept(code, [1, 2])
        kept.go(3)
        self.assertEqual((kept.out, kept.held), ([("take", 1)], [("take", 2)]))
        kept.go(1)
        self.assertEqual((kept.out, kept.held), ([("take", 1), ("take", 2), ("stop",)], []))
        self.assertEqual(kept.kept, (2, (1,) + (0,) * 7, (), (2,)))
        before = told(kept)
        kept.go(10)
        self.assertEqual(told(kept), before)

    def test_going_back_gives_the_inputs_back(self):
        kept = Kept(LOOP, [3, 14, 5])
        kept.go(18)
        self.assertEqual((kept.held, kept.left), ([("take", 5)], []))
        for hue in (0, 1):
            kept.strike(hue, ("pointer",), 9999)
        kept.go(1)
        self.assertEqual((kept.held, kept.left, kept.steps, kept.state), ([], [5], 19, "running"))
        self.assertEqual(kept.legs[-1], (9, (0, 1), "back"))
        one = kept.machine()
        self.assertEqual((one.pointers, one.slots), ((10, 10, 10), (None, None, None)))
        self.assertEqual({one.registers(hue) for hue in range(3)}, {(3, 0, 4, 0, 0, 0, 0, 0)})
        self.assertEqual({one.cells(hue) for hue in range(3)}, {(3, 6)})

    def test_own_instructions_are_those_of_the_code_again(self):
        for steps in (10, 12):
            kept = Kept(LOOP, [])
            kept.go(3)
            kept.strike(0, ("code", 4), (0, "set", 5, 5))
            kept.go(steps - 3)
            self.assertEqual(kept.machine().own(0, 4), (0, "offer", 0), "behind a mark")
        kept = Kept(LOOP, [])
        kept.go(2)
        for hue in (0, 1):
            kept.strike(hue, ("code", 4 + hue), (hue, "set", 5, 5))
        kept.go(5)
        self.assertEqual(kept.machine().own(0, 4), (0, "set", 5, 5))
        kept.go(1)
        self.assertEqual((kept.legs, kept.machine().own(0, 4)), ([(8, (0, 1), "back")], (0, "offer", 0)))

    def test_a_mark_that_is_caught_goes_back(self):
        code = coded((0, "set", 1, 1), ("mark",), ("stop",))
        kept = Kept(code, [])
        kept.go(6)
        self.assertEqual(kept.legs, [(2, (), "back")] * 3)
        self.assertEqual((kept.out, kept.held, kept.kept[0]), ([], [], 0))

    def test_pointers_behind_the_last_cell_go_back(self):
        kept = Kept(coded(("take", 0, 1), votes=(1,)), [4])
        kept.go(5)
        self.assertEqual(kept.legs, [(2, (), "back")] * 2)
        self.assertEqual((kept.held, kept.left), ([("take", 4)], []))

    def test_strikes_are_numbered_by_all_steps(self):
        strikes = [(4, hue, ("slot",), None) for hue in (0,)] + [(9, 1, ("slot",), None), (30, 0, ("slot",), None)]
        kept = Kept(CODE_53, [], strikes)
        kept.go(100)
        self.assertEqual(kept.legs, [(5, (0,), "back"), (5, (1,), "back"), (6, (), "kept"), (1, (), "stopped")])

    def test_a_strike_belongs_to_the_leg_of_the_next_step(self):
        for step, at in ((0, 0), (5, 0), (6, 1)):
            kept = Kept(CODE_53, [], [(step, 1, ("register", 5), 0)])
            kept.go(100)
            self.assertEqual([leg[1] for leg in kept.legs], [(1,) * (leg == at) for leg in range(2)])
            kept = Kept(CODE_53, [])
            kept.go(step)
            kept.strike(1, ("register", 5), 0)
            kept.go(100)
            self.assertEqual([leg[1] for leg in kept.legs], [(1,) * (leg == at) for leg in range(2)])

    def test_beside_a_plain_one(self):
        ends = {"kept": 0, "back": 0, "stopped": 0}
        for seed in range(600):
            maker = CodeMaker(seed, 12)
            code = maker.code() if seed % 3 == 0 else maker.alike()
            if seed % 2:
                at = maker.chance.randrange(len(code[2]))
                code = code[:2] + (code[2][:at] + (("mark",),) + code[2][at + 1:],) + code[3:]
            inputs, strikes = maker.inputs(), maker.strikes(code, maker.chance.randrange(6), 40)
            kept, plain = Kept(code, inputs, strikes), PlainKept(code, inputs, strikes)
            while plain.steps < 60 and plain.state == "running":
                self.assertEqual(told(kept), plain.told())
                if maker.chance.random() < 0.1:
                    hue = maker.chance.randrange(len(code[0]))
                    place, new = maker.struck_thing(code, hue)
                    kept.strike(hue, place, new)
                    plain.strike(hue, place, new)
                self.assertEqual(kept.machine().moment(), plain.machine.moment())
                steps = maker.chance.randrange(4)
                kept.go(steps)
                plain.go(steps)
            self.assertEqual(told(kept), plain.told())
            self.assertEqual(kept.machine().moment(), plain.machine.moment())
            for _, _, end in plain.legs:
                ends[end] += 1
        self.assertGreater(min(ends.values()), 50, ends)


class Methods(unittest.TestCase):

    def test_go(self):
        kept = Kept(CODE_53, [])
        for bad in (None, -1, True, 1000001, "1", [1]):
            self.assertRaises(BadSteps, kept.go, bad)
        self.assertIsNone(kept.go(0))
        self.assertEqual(kept.steps, 0)
        kept.go(1000000)
        self.assertEqual(kept.steps, 7)

    def test_strike_has_the_errors_of_a_machine(self):
        kept = Kept(CODE_53, [])
        before = told(kept)
        self.assertRaises(BadHue, kept.strike, 2, None, None)
        self.assertRaises(BadHue, kept.strike, True, None, None)
        self.assertRaises(BadPlace, kept.strike, 1, ("cell", 0), None)
        self.assertRaises(BadPlace, kept.strike, 1, ("code", 0), None)
        self.assertRaises(BadPlace, kept.strike, 1, ["slot"], None)
        self.assertRaises(BadNew, kept.strike, 1, ("slot",), 10)
        self.assertRaises(BadNew, kept.strike, 1, ("pointer",), 10000)
        self.assertRaises(BadNew, kept.strike, 1, ("code", 1), (0, "set", 0, 7))
        self.assertEqual(told(kept), before)
        kept.go(100)
        self.assertEqual(kept.legs, [(6, (), "kept"), (1, (), "stopped")])

    def test_strike_on_one_that_has_stopped(self):
        kept = Kept(CODE_53, [])
        kept.go(100)
        before = (told(kept), kept.machine().moment())
        self.assertIsNone(kept.strike(0, ("register", 0), 3))
        self.assertEqual((told(kept), kept.machine().moment()), before)
        self.assertRaises(BadHue, kept.strike, 2, ("register", 0), 3)
        self.assertRaises(BadPlace, kept.strike, 0, ("register", 8), 3)
        self.assertRaises(BadNew, kept.strike, 0, ("register", 0), 10)

    def test_copy(self):
        kept = Kept(LOOP, [3, 14, 5], [(8, 0, ("slot",), 4), (12, 1, ("register", 0), 4)])
        kept.go(7)
        kept.strike(2, ("register", 6), 1)
        other = kept.copy()
        self.assertEqual(told(other), told(kept))
        self.assertIsInstance(other, Kept)
        kept.strike(1, ("pointer",), 9999)
        kept.go(30)
        self.assertEqual((other.steps, other.legs), (7, []))
        other.strike(1, ("pointer",), 9999)
        other.go(30)
        self.assertEqual(told(other), told(kept))
        self.assertEqual(other.machine().moment(), kept.machine().moment())
        self.assertEqual(kept.legs[0][1], (0, 1, 2))

    def test_copies_go_on_alike(self):
        for seed in range(100):
            maker = CodeMaker(seed, 10)
            code = maker.alike()
            kept = Kept(code, [1, 2, 3], maker.strikes(code, 5, 30))
            for _ in range(6):
                other = kept.copy()
                kept.go(5)
                self.assertLessEqual(other.steps, kept.steps)
                other.go(5)
                self.assertEqual(told(other), told(kept))
                self.assertEqual(other.machine().moment(), kept.machine().moment())
                self.assertEqual(other.machine().steps, kept.machine().steps)
                kept = other

    def test_machine(self):
        kept = Kept(LOOP, [3, 14, 5], [(13, 0, ("pointer",), 9999), (13, 1, ("pointer",), 9999), (40, 0, ("slot",), 1)])
        kept.go(13)
        one = kept.machine()
        self.assertIsInstance(one, Machine)
        self.assertEqual((one.row, one.steps, one.state), (kept.out + kept.held, 13, "running"))
        self.assertEqual((one.left, one.address), ([], 2))
        kept.go(3)
        self.assertEqual(kept.legs[-1], (4, (0, 1), "back"))
        two = kept.machine()
        self.assertEqual((two.steps, two.row, two.address), (12, kept.out + kept.held, 1))
        one.go(10)
        self.assertEqual((one.steps, kept.steps, two.steps), (23, 16, 12))
        # It is struck by none of the strikes that were to come.
        two.go(11)
        self.assertEqual((two.row, two.moment()), (one.row, one.moment()))
        kept.go(28)
        self.assertEqual(two.steps, 23)

    def test_the_machine_of_one_that_has_stopped(self):
        kept = Kept(CODE_53, [], [(2, 1, ("register", 0), 8)])
        kept.go(100)
        one = kept.machine()
        self.assertEqual((one.state, one.row, one.steps), ("stopped", [("show", 1, 7), ("stop",)], 7))

    def test_lists_are_new(self):
        kept = Kept(LOOP, [3, 14, 5])
        kept.go(18)
        before = told(kept)
        for found in (kept.out, kept.held, kept.left, kept.legs):
            found.append(None)
        self.assertEqual(told(kept), before)
        inputs, strikes = [3], [(0, 0, ("slot",), 1)]
        kept = Kept(CODE_53, inputs, strikes)
        inputs.append(4)
        strikes.clear()
        kept.go(7)
        self.assertEqual((kept.left, kept.legs[0][1]), ([3], (0,)))

    def test_equal_to_nothing_of_another_kind(self):
        kept = Kept(CODE_53, [])
        for other in STRANGE + (kept.machine(),):
            self.assertNotEqual(kept, other)
        self.assertRaises(TypeError, iter, kept)


class Checkpoints(unittest.TestCase):

    POINT = (10, (3, 0, 4) + (0,) * 5, (3, 6), (5,))

    def test_just_right(self):
        for good in (
            self.POINT, (0,) + self.POINT[1:], (11,) + self.POINT[1:], (3, (9,) * 8, (9, 0), ()),
            (3, (0,) * 8, (0, 0), (9999,) * 400), (3, (0,) * 8, (0, 0), (0,)),
        ):
            self.assertIs(is_checkpoint(LOOP, good), True)
            self.assertEqual(resumed(LOOP, good).kept, good)

    def test_just_wrong(self):
        address, numbers, bank, left = self.POINT
        wrong = [
            (12, numbers, bank, left), (-1, numbers, bank, left), (True, numbers, bank, left), (None,) + self.POINT[1:],
            (address, numbers[:7], bank, left), (address, numbers + (0,), bank, left),
            (address, (10,) + numbers[1:], bank, left), (address, (-1,) + numbers[1:], bank, left),
            (address, (True,) + numbers[1:], bank, left), (address, list(numbers), bank, left),
            (address, numbers, (3,), left), (address, numbers, (3, 6, 0), left), (address, numbers, (3, 10), left),
            (address, numbers, (False, 6), left), (address, numbers, [3, 6], left), (address, numbers, None, left),
            (address, numbers, bank, (10000,)), (address, numbers, bank, (-1,)), (address, numbers, bank, (True,)),
            (address, numbers, bank, [5]), (address, numbers, bank, (0,) * 401), (address, numbers, bank, 5),
            self.POINT[:3], self.POINT + ((),), list(self.POINT),
        ]
        for bad in wrong + list(STRANGE):
            self.assertIs(is_checkpoint(LOOP, bad), False, bad)
            self.assertRaises(BadCheckpoint, resumed, LOOP, bad)

    def test_code_comes_first(self):
        for bad in STRANGE:
            self.assertRaises(BadCode, is_checkpoint, bad, None)
            self.assertRaises(BadCode, resumed, bad, None)

    def test_an_empty_bank(self):
        self.assertTrue(is_checkpoint(CODE_53, (7, (0,) * 8, (), ())))
        self.assertFalse(is_checkpoint(CODE_53, (8, (0,) * 8, (), ())))

    def test_resumed(self):
        kept = resumed(LOOP, self.POINT)
        self.assertEqual(told(kept), ([], [], "running", 0, [5], self.POINT, []))
        one = kept.machine()
        self.assertEqual((one.pointers, one.slots, one.steps), ((10,) * 3, (None,) * 3, 0))
        self.assertEqual({one.registers(hue) for hue in range(3)}, {self.POINT[1]})
        self.assertEqual({one.cells(hue) for hue in range(3)}, {self.POINT[2]})
        kept.go(4)
        self.assertEqual((kept.held, kept.left), ([("take", 5)], []))
        for hue in (0, 1, 2):
            kept.strike(hue, ("pointer",), 9999)
        kept.go(1)
        self.assertEqual((kept.held, kept.left, kept.legs, kept.kept), ([], [5], [(5, (0, 1, 2), "back")], self.POINT))
        kept.go(10)
        self.assertEqual(kept.out, [])
        kept.go(1)
        self.assertEqual(kept.out, [("take", 5), ("show", 0, 5), ("take", 0)])

    def test_resumed_at_the_count_of_cells(self):
        kept = resumed(LOOP, (11,) + self.POINT[1:])
        kept.go(2)
        self.assertEqual(kept.legs, [(1, (), "back")] * 2)
        self.assertIsNone(kept.machine().address)

    def test_the_rest_of_the_row(self):
        rows = 0
        for seed in range(300):
            maker = CodeMaker(seed, 12)
            code = maker.alike()
            kept = Kept(code, [7, 1, 8, 2])
            while kept.steps < 100 and kept.state == "running":
                kept.go(1)
                if kept.legs and kept.legs[-1][2] == "kept" and not kept.held:
                    other = resumed(code, kept.kept)
                    whole = Kept(code, [7, 1, 8, 2])
                    whole.go(200)
                    other.go(200)
                    rest = whole.out[len(kept.out):]
                    self.assertEqual(other.out[:len(rest)], rest)
                    rows += 1
        self.assertGreater(rows, 50)


if __name__ == "__main__":
    unittest.main()
