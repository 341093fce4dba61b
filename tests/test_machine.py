"""Machines: what they hold, how they go on and are struck: [26]."""

import unittest

from hueward.errors import BadAddress, BadCode, BadHue, BadInputs, BadNew, BadPlace, BadSteps, BadStrikes
from hueward.machine import Machine
from tests.coding import CODE_30, FULL_CODE, CodeMaker, coded
from tests.plain_machine import PlainMachine
from tests.samples import STRANGE

WRONG_WHOLES = (-1, True, False, None, "0", (0,), [0], {}, 10 ** 99)
TAKES = coded(("take", 0, 2), ("take", 3, 1), ("take", 7, 2), ("stop",))
LOOP = coded(("goto", 0))


def all_of(machine):
    """Everything that a machine tells."""
    return (machine.row, machine.steps, machine.state, machine.left, machine.pointers, machine.slots, machine.address,
            machine.moment())


class Beginning(unittest.TestCase):

    def test_ahead_of_the_first_step(self):
        machine = Machine(FULL_CODE, [5, 105, 9999])
        self.assertEqual(machine.row, [])
        self.assertEqual(machine.steps, 0)
        self.assertEqual(machine.state, "running")
        self.assertEqual(machine.left, [5, 105, 9999])
        self.assertEqual(machine.pointers, (0, 0, 0))
        self.assertEqual(machine.slots, (None, None, None))
        self.assertEqual(machine.address, 0)
        for hue in range(3):
            self.assertEqual(machine.registers(hue), (0,) * 8)
            self.assertEqual(machine.cells(hue), (0, 1, 2, 3, 4, 5, 99))
            for at, cell in enumerate(FULL_CODE[2]):
                if cell[0] == hue:
                    self.assertEqual(machine.own(hue, at), cell)

    def test_moment(self):
        own = [tuple([cell for cell in FULL_CODE[2] if cell[0] == hue]) for hue in range(3)]
        hues = tuple([((0,) * 8, FULL_CODE[3], 0, None, own[hue]) for hue in range(3)])
        self.assertEqual(Machine(FULL_CODE, [5]).moment(), (hues, ("running", (5,))))
        machine = Machine(CODE_30, (4,), [(3, 1, ("pointer",), 77)])
        machine.go(4)
        machine.strike(1, ("slot",), 8)
        machine.strike(0, ("code", 2), (0, "set", 1, 9))
        self.assertEqual(machine.moment(), (
            (
                ((7,) + (0,) * 7, (), 3, 7, ((0, "set", 0, 7), (0, "set", 1, 9))),
                ((7,) + (0,) * 7, (), 77, 8, ((1, "set", 0, 7), (1, "offer", 0))),
            ),
            ("caught", (4,)),
        ))

    def test_kinds(self):
        machine = Machine(FULL_CODE, (5, 6))
        self.assertIs(machine.row.__class__, list)
        self.assertIs(machine.left.__class__, list)
        self.assertIs(machine.pointers.__class__, tuple)
        self.assertIs(machine.slots.__class__, tuple)
        self.assertIs(machine.registers(0).__class__, tuple)
        self.assertIs(machine.cells(0).__class__, tuple)
        moment = machine.moment()
        hash(moment)
        self.assertIs(moment.__class__, tuple)

    def test_wrong(self):
        for code in STRANGE + (list(CODE_30),):
            self.assertRaises(BadCode, Machine, code, None, None)
        for inputs in (None, "", {}, [True], [-1], [10000], [0] * 401):
            self.assertRaises(BadInputs, Machine, CODE_30, inputs, None)
        for strikes in (None, {}, [None]):
            self.assertRaises(BadStrikes, Machine, CODE_30, [0] * 400, strikes)


class Going(unittest.TestCase):

    def test_portions(self):
        for seed in range(150):
            maker = CodeMaker(seed)
            code = maker.alike() if seed % 2 else maker.code()
            inputs = maker.inputs()
            strikes = maker.strikes(code, 3, 20)
            one = Machine(code, inputs, strikes)
            one.go(30)
            other = Machine(code, inputs, strikes)
            for portion in (0, 1, 2, 0, 7, 20):
                other.go(portion)
            self.assertEqual(all_of(one), all_of(other))

    def test_no_more_than_asked(self):
        machine = Machine(LOOP, [])
        for steps, done in ((0, 0), (1, 1), (5, 6), (0, 6)):
            machine.go(steps)
            self.assertEqual(machine.steps, done)
        machine.go(1000000)
        self.assertEqual((machine.steps, machine.state), (1000006, "running"))

    def test_not_behind_the_end(self):
        for code, state in ((CODE_30, "stopped"), (coded(*CODE_30[2][:-1]), "caught")):
            machine = Machine(code, [3])
            machine.go(100)
            self.assertEqual((machine.state, machine.steps), (state, 6))
            before = all_of(machine)
            machine.go(100)
            self.assertEqual(all_of(machine), before)

    def test_wrong_steps(self):
        for steps in (1000001,) + WRONG_WHOLES:
            self.assertRaises(BadSteps, Machine(CODE_30, []).go, steps)

    def test_left(self):
        machine = Machine(TAKES, [17, 4])
        for left, row in (([17, 4], []), ([4], [("take", 7)]), ([], [("take", 7), ("take", 4)])):
            self.assertEqual((machine.left, machine.row), (left, row))
            machine.go(1)
        self.assertEqual((machine.left, machine.row), ([], [("take", 7), ("take", 4), ("take", 0)]))

    def test_what_is_told_is_new(self):
        machine = Machine(TAKES, [17, 4])
        machine.go(1)
        machine.row.append("more")
        machine.left.append("more")
        self.assertEqual((machine.row, machine.left), ([("take", 7)], [4]))


class Address(unittest.TestCase):

    def test_it_is_agreed(self):
        machine = Machine(FULL_CODE, [])
        machine.go(3)
        self.assertEqual(machine.address, 3)
        machine.strike(1, ("pointer",), 9)
        self.assertEqual((machine.address, machine.pointers), (3, (3, 9, 3)))
        machine.strike(0, ("pointer",), 9)
        self.assertEqual((machine.address, machine.pointers), (9, (9, 9, 3)))
        machine.strike(2, ("pointer",), 4)
        self.assertEqual(machine.address, 9)
        machine.strike(0, ("pointer",), 5)
        self.assertIsNone(machine.address)

    def test_votes_decide(self):
        for votes, address in (((1, 2, 2), 1), ((1, 2, 3), None)):
            machine = Machine(coded(("mark",), ("stop",), votes=votes), [])
            machine.strike(1, ("pointer",), 1)
            machine.strike(2, ("pointer",), 1)
            self.assertEqual(machine.address, address)

    def test_beyond_the_code(self):
        for pointer, address in ((19, 19), (20, None), (9999, None)):
            machine = Machine(FULL_CODE, [])
            for hue in range(3):
                machine.strike(hue, ("pointer",), pointer)
            self.assertEqual(machine.address, address)

    def test_not_behind_the_end(self):
        for code in (CODE_30, coded(*CODE_30[2][:4] + (("show", 1, 2),))):
            machine = Machine(code, [])
            machine.go(100)
            self.assertIsNone(machine.address)
            machine.strike(0, ("pointer",), 0)
            machine.strike(1, ("pointer",), 0)
            self.assertIsNone(machine.address)
            self.assertEqual(machine.pointers, (0, 0))


class Strikes(unittest.TestCase):

    def test_just_ahead_of_their_steps(self):
        code = coded((0, "set", 0, 1), (0, "set", 0, 2), (0, "set", 1, 3), ("stop",))
        machine = Machine(code, [], [(0, 0, ("register", 1), 5), (1, 0, ("register", 0), 6), (2, 1, ("slot",), 7),
                                     (4, 1, ("slot",), 8)])
        seen = []
        for _ in range(6):
            seen.append((machine.registers(0)[:2], machine.slots[1]))
            machine.go(1)
        self.assertEqual(seen, [((0, 0), None), ((1, 5), None), ((2, 5), None), ((2, 3), 7), ((2, 3), 7), ((2, 3), 7)])
        machine = Machine(code, [], [(1, 0, ("register", 5), 6), (1, 1, ("register", 5), 7)])
        machine.go(1)
        self.assertEqual((machine.registers(0)[5], machine.registers(1)[5]), (0, 0))
        machine.go(1)
        self.assertEqual((machine.registers(0)[5], machine.registers(1)[5]), (6, 7))

    def test_one_behind_another_ahead_of_one_step(self):
        strikes = [(1, 0, ("slot",), 4), (1, 0, ("slot",), None), (1, 0, ("register", 2), 4),
                   (1, 0, ("register", 2), 5)]
        machine = Machine(LOOP, [], strikes)
        machine.go(2)
        self.assertEqual((machine.slots[0], machine.registers(0)[2]), (None, 5))

    def test_not_behind_the_end(self):
        strikes = [(5, 0, ("register", 1), 4), (6, 0, ("register", 2), 4), (7, 0, ("register", 3), 4)]
        machine = Machine(CODE_30, [], strikes)
        machine.go(100)
        self.assertEqual(machine.registers(0)[1:4], (4, 0, 0))

    def test_each_place(self):
        machine = Machine(FULL_CODE, [])
        machine.go(2)
        before = machine.moment()[0]
        self.assertIsNone(machine.strike(0, ("register", 7), 99))
        self.assertEqual(machine.registers(0), (99,) + (0,) * 6 + (99,))
        machine.strike(1, ("cell", 6), 0)
        self.assertEqual(machine.cells(1), (0, 1, 2, 3, 4, 5, 0))
        machine.strike(2, ("pointer",), 9999)
        self.assertEqual(machine.pointers, (2, 2, 9999))
        machine.strike(0, ("slot",), 3)
        self.assertEqual(machine.slots, (3, None, None))
        machine.strike(0, ("slot",), None)
        self.assertEqual(machine.slots, (None, None, None))
        machine.strike(1, ("code", 4), (1, "offer", 2))
        self.assertEqual(machine.own(1, 4), (1, "offer", 2))
        self.assertEqual(machine.moment()[0], (
            ((99, 0, 0, 0, 0, 0, 0, 99),) + before[0][1:],
            (before[1][0], (0, 1, 2, 3, 4, 5, 0)) + before[1][2:4]
            + ((before[1][4][0], (1, "offer", 2)) + before[1][4][2:],),
            before[2][:2] + (9999,) + before[2][3:],
        ))
        self.assertEqual((machine.steps, machine.state, machine.row), (2, "running", []))

    def test_whatever_the_state(self):
        for code in (CODE_30, coded(*CODE_30[2][:5])):
            machine = Machine(code, [])
            machine.go(100)
            machine.strike(1, ("register", 4), 4)
            machine.strike(1, ("slot",), 5)
            machine.strike(1, ("code", 1), (1, "set", 0, 0))
            self.assertEqual((machine.registers(1)[4], machine.slots[1]), (4, 5))
            self.assertEqual(machine.own(1, 1), (1, "set", 0, 0))
            self.assertEqual(machine.steps, 6)

    def test_struck_code_is_done(self):
        machine = Machine(CODE_30, [])
        machine.strike(0, ("code", 0), (0, "set", 0, 6))
        machine.strike(1, ("code", 1), (1, "set", 0, 6))
        machine.go(100)
        self.assertEqual(machine.row, [("show", 1, 6), ("stop",)])
        again = Machine(CODE_30, [])
        again.go(100)
        self.assertEqual(again.row, [("show", 1, 7), ("stop",)])

    def test_by_strike_and_by_number_are_the_same(self):
        for seed in range(200):
            maker = CodeMaker(seed)
            code = maker.code()
            inputs = maker.inputs()
            strikes = maker.strikes(code, 5, 8)
            one = Machine(code, inputs, strikes)
            one.go(12)
            other = Machine(code, inputs)
            for step in range(12):
                for number, hue, place, new in strikes:
                    if number == step and other.state == "running":
                        other.strike(hue, place, new)
                other.go(1)
            self.assertEqual(all_of(one), all_of(other))

    def test_wrong(self):
        machine = Machine(FULL_CODE, [])
        before = all_of(machine)
        for hue in (3,) + WRONG_WHOLES:
            self.assertRaises(BadHue, machine.strike, hue, None, "x")
        for place in STRANGE + (("register", 8), ("cell", 7), ("code", 1), ("code", 14), ("code", 20), ["slot"],
                                ("slot", 0), ("register", True), ("none",)):
            self.assertRaises(BadPlace, machine.strike, 0, place, "x")
        for place, news in (
            (("register", 0), (100, None) + WRONG_WHOLES),
            (("cell", 0), (100, None) + WRONG_WHOLES),
            (("pointer",), (10000, None) + WRONG_WHOLES),
            (("slot",), (100, -1, True, False, "0", (0,))),
            (("code", 0), (0, None, (1, "offer", 0), ("stop",), [0, "offer", 0], (0, "set", 0, 100))),
        ):
            for new in news:
                self.assertRaises(BadNew, machine.strike, 0, place, new)
        self.assertEqual(all_of(machine), before)


class Looking(unittest.TestCase):

    def test_wrong(self):
        machine = Machine(FULL_CODE, [])
        for hue in (3,) + WRONG_WHOLES:
            self.assertRaises(BadHue, machine.registers, hue)
            self.assertRaises(BadHue, machine.cells, hue)
            self.assertRaises(BadHue, machine.own, hue, None)
        for hue in range(3):
            for at in range(20):
                if FULL_CODE[2][at][0] != hue:
                    self.assertRaises(BadAddress, machine.own, hue, at)
            for at in (20, 3999) + WRONG_WHOLES:
                self.assertRaises(BadAddress, machine.own, hue, at)


class Copies(unittest.TestCase):

    def test_equal_and_independent(self):
        for seed in range(150):
            maker = CodeMaker(seed)
            code = maker.alike() if seed % 2 else maker.code()
            inputs = maker.inputs()
            machine = Machine(code, inputs, maker.strikes(code, 4, 16))
            machine.go(maker.chance.randrange(10))
            twin = machine.copy()
            self.assertIsInstance(twin, Machine)
            before = all_of(machine)
            self.assertEqual(all_of(twin), before)
            for hue in range(len(code[0])):
                place, new = maker.struck_thing(code, hue)
                twin.strike(hue, place, new)
                twin.strike(hue, ("register", 0), 1)
            twin.go(20)
            self.assertEqual(all_of(machine), before)
            kept = all_of(twin)
            machine.go(20)
            self.assertEqual(all_of(twin), kept)

    def test_strikes_are_still_to_come(self):
        strikes = [(1, 0, ("register", 0), 3), (4, 0, ("register", 0), 4), (4, 1, ("slot",), 5)]
        machine = Machine(LOOP, [], strikes)
        machine.go(2)
        first = machine.copy()
        second = first.copy()
        for one in (machine, first, second):
            one.go(2)
            self.assertEqual((one.registers(0)[0], one.slots[1]), (3, None))
            one.go(1)
            self.assertEqual((one.registers(0)[0], one.slots[1]), (4, 5))

    def test_struck_code_is_given_back_by_marks_in_copies(self):
        machine = Machine(coded((0, "set", 0, 7), (1, "set", 0, 7), ("mark",), ("goto", 0)), [])
        machine.strike(0, ("code", 0), (0, "set", 1, 0))
        machine.strike(0, ("register", 0), 7)
        twin = machine.copy()
        twin.go(3)
        self.assertEqual(twin.own(0, 0), (0, "set", 0, 7))
        self.assertEqual(machine.own(0, 0), (0, "set", 1, 0))

    def test_of_copies(self):
        machine = Machine(TAKES, [1, 2, 3])
        machine.go(2)
        twin = machine.copy().copy()
        twin.go(1)
        self.assertEqual((twin.row, twin.left), ([("take", 1), ("take", 2), ("take", 3)], []))
        self.assertEqual((machine.row, machine.left), ([("take", 1), ("take", 2)], [3]))


class Plain(unittest.TestCase):
    """Machines beside the plain ones, step by step."""

    def test_codes_of_all_kinds(self):
        for seed in range(500):
            maker = CodeMaker(seed)
            code = maker.alike() if seed % 2 else maker.code()
            self.compare(code, maker.inputs(), maker.strikes(code, maker.chance.randrange(5), 20))

    def test_unstruck(self):
        for seed in range(500, 700):
            maker = CodeMaker(seed)
            self.compare(maker.alike(), maker.inputs(), [])

    def compare(self, code, inputs, strikes):
        one = Machine(code, inputs, strikes)
        other = PlainMachine(code, inputs, strikes)
        for _ in range(40):
            self.assertEqual(one.moment(), other.moment())
            self.assertEqual((one.row, one.steps), (other.row, other.steps))
            one.go(1)
            other.go(1)


if __name__ == "__main__":
    unittest.main()
