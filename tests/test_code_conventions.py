"""What holds for all functions of codes, machines and flows: [3], [4], [5], [10]."""

import copy
import unittest

from hueward import codes, codetexts, flows, machine
from hueward.errors import BadCode, BadCodeText, BadHue, BadInputs, BadOrder, BadProgram, BadSteps, BadStrikes, BadThing
from hueward.machine import Machine
from hueward.meaning import Run
from tests.coding import CODE_30, FULL_CODE, FULL_CODE_TEXT
from tests.samples import FULL, STRANGE

STRIKES = [(1, 0, ("register", 3), 1), (2, 1, ("code", 4), (1, "offer", 2)), (2, 2, ("slot",), None)]


class Order(unittest.TestCase):
    """The first wrong parameter from the left decides."""

    def test_code_comes_first(self):
        for call in (
            lambda bad: codes.hues_of(bad),
            lambda bad: codes.is_instruction(bad, 7, None),
            lambda bad: codes.instructions(bad, 7),
            lambda bad: codes.settles(bad),
            lambda bad: codes.is_strikes(bad, None),
            lambda bad: codetexts.code_text(bad),
            lambda bad: Machine(bad, None, None),
            lambda bad: machine.struck(bad, None, None, None),
            lambda bad: machine.machine_row(bad, None, None, None),
            lambda bad: machine.first_parting(bad, None, None),
            lambda bad: machine.renumbered(bad, None),
            lambda bad: machine.strikes_renumbered(bad, None, None),
        ):
            for bad in STRANGE + (list(CODE_30), CODE_30[:3], CODE_30 + (1,), FULL, [FULL_CODE]):
                self.assertRaises(BadCode, call, bad)

    def test_from_left_to_right(self):
        cases = (
            (BadInputs, lambda: Machine(CODE_30, None, None)),
            (BadStrikes, lambda: Machine(CODE_30, [], None)),
            (BadInputs, lambda: machine.struck(CODE_30, None, None, None)),
            (BadStrikes, lambda: machine.struck(CODE_30, [], None, None)),
            (BadSteps, lambda: machine.struck(CODE_30, [], [], None)),
            (BadInputs, lambda: machine.machine_row(CODE_30, None, None, None)),
            (BadSteps, lambda: machine.machine_row(CODE_30, [], None, None)),
            (BadStrikes, lambda: machine.machine_row(CODE_30, [], 0, None)),
            (BadInputs, lambda: machine.first_parting(CODE_30, None, None)),
            (BadSteps, lambda: machine.first_parting(CODE_30, [], None)),
            (BadStrikes, lambda: machine.strikes_renumbered(CODE_30, None, None)),
            (BadOrder, lambda: machine.strikes_renumbered(CODE_30, [], None)),
            (BadHue, lambda: codes.is_instruction(CODE_30, 2, None)),
            (BadProgram, lambda: flows.chain(None, None, None)),
            (BadThing, lambda: flows.chain(FULL, None, None)),
        )
        for error, call in cases:
            self.assertRaises(error, call)

    def test_first_comes_ahead_of_last(self):
        for first, last in ((None, ("takes",)), (("takes",), None)):
            self.assertRaises(BadThing, flows.chain, FULL, first, last)


class Parameters(unittest.TestCase):

    def test_by_name(self):
        self.assertTrue(codes.is_votes(value=(1, 2)) and codes.is_code(value=CODE_30))
        self.assertEqual(codes.hues_of(code=CODE_30), 2)
        self.assertTrue(codes.is_instruction(value=(1, "offer", 0), hue=1, code=CODE_30))
        self.assertEqual(codes.instructions(hue=0, code=CODE_30), codes.instructions(CODE_30, 0))
        self.assertEqual(codes.settles(code=CODE_30), [4, 5])
        self.assertTrue(codes.is_strikes(value=[], code=CODE_30))
        self.assertEqual(codetexts.code_text(code=FULL_CODE), FULL_CODE_TEXT)
        self.assertEqual(codetexts.code_of(text=FULL_CODE_TEXT), FULL_CODE)
        one = Machine(strikes=[(0, 0, ("slot",), 1)], inputs=[3], code=CODE_30)
        one.go(steps=1)
        one.strike(new=4, place=("register", 1), hue=1)
        self.assertEqual((one.registers(hue=1)[1], one.cells(hue=1), one.slots), (4, (), (1, None)))
        self.assertEqual(one.own(address=1, hue=1), (1, "set", 0, 7))
        two = machine.struck(steps=6, strikes=[], inputs=[], code=CODE_30)
        self.assertEqual(machine.machine_row(strikes=[], steps=6, inputs=[], code=CODE_30), two.row)
        self.assertIsNone(machine.first_parting(steps=6, inputs=[], code=CODE_30))
        self.assertEqual(machine.renumbered(order=(0, 1), code=CODE_30), CODE_30)
        self.assertEqual(machine.strikes_renumbered(order=(0, 1), strikes=[], code=CODE_30), [])
        self.assertEqual(flows.things(program=FULL), flows.things(FULL))
        self.assertEqual(flows.flows(program=FULL), flows.flows(FULL))
        self.assertEqual(flows.reached(thing=("end",), program=FULL), flows.reached(FULL, ("end",)))
        self.assertEqual(flows.chain(last=("end",), first=("end",), program=FULL), [("end",)])

    def test_inputs(self):
        for bad in (None, "", "12", {}, {1: 2}, 5, (True,), [False], [-1], [10000], [1, 2, None], ["1"], [0] * 401,
                    [[1]]):
            self.assertRaises(BadInputs, Machine, CODE_30, bad)
            self.assertRaises(BadInputs, machine.struck, CODE_30, bad, [], 0)
            self.assertRaises(BadInputs, machine.machine_row, CODE_30, bad, 0)
            self.assertRaises(BadInputs, machine.first_parting, CODE_30, bad, 0)
        for good in ([], (), [0, 9999], (0, 9999), [1] * 400, (9999,) * 400):
            self.assertEqual(Machine(CODE_30, good).left, list(good))


class Values(unittest.TestCase):

    def test_what_is_passed_in_stays(self):
        inputs, strikes = [3, 1, 4], list(STRIKES)
        one = Machine(FULL_CODE, inputs, strikes)
        inputs.append(7)
        strikes[0] = None
        strikes.append(None)
        one.go(3)
        self.assertEqual((one.left, one.registers(0)[3]), ([3, 1, 4], 1))
        inputs, strikes = [3, 1, 4], list(STRIKES)
        machine.struck(FULL_CODE, inputs, strikes, 50).strike(0, ("register", 0), 4)
        machine.strikes_renumbered(FULL_CODE, strikes, (1, 2, 0)).append(None)
        machine.first_parting(FULL_CODE, inputs, 50)
        self.assertEqual((inputs, strikes), ([3, 1, 4], STRIKES))

    def test_codes_stay(self):
        before = copy.deepcopy(FULL_CODE)
        one = machine.struck(FULL_CODE, [], STRIKES, 50)
        one.strike(0, ("cell", 0), 9)
        one.strike(0, ("code", 0), (0, "offer", 0))
        machine.renumbered(FULL_CODE, (1, 2, 0))
        self.assertEqual(FULL_CODE, before)
        self.assertEqual(Machine(FULL_CODE, []).own(0, 0), FULL_CODE[2][0])

    def test_lists_and_tuples_are_equal(self):
        for inputs in ([17, 3], (17, 3)):
            for strikes in (STRIKES, tuple(STRIKES)):
                one = machine.struck(FULL_CODE, inputs, strikes, 20)
                self.assertEqual(one.moment(), machine.struck(FULL_CODE, [17, 3], STRIKES, 20).moment())
                self.assertEqual(machine.strikes_renumbered(FULL_CODE, strikes, (0, 1, 2)), STRIKES)

    def test_returned_lists_are_new(self):
        for call in (
            lambda: codes.instructions(FULL_CODE, 0),
            lambda: codes.settles(FULL_CODE),
            lambda: machine.machine_row(CODE_30, [], 9),
            lambda: machine.strikes_renumbered(FULL_CODE, STRIKES, (1, 2, 0)),
        ):
            first = call()
            self.assertIs(first.__class__, list)
            kept = list(first)
            first.append("more")
            self.assertEqual(call(), kept)

    def test_whether_is_true_or_false(self):
        for value in STRANGE + (CODE_30, (1, 2), STRIKES):
            self.assertIs(codes.is_votes(value).__class__, bool)
            self.assertIs(codes.is_code(value).__class__, bool)
            self.assertIs(codes.is_instruction(CODE_30, 0, value).__class__, bool)
            self.assertIs(codes.is_strikes(CODE_30, value).__class__, bool)

    def test_no_result_is_none(self):
        one = Machine(CODE_30, [])
        self.assertIsNone(one.go(1))
        self.assertIsNone(one.strike(0, ("slot",), None))

    def test_objects(self):
        one = Machine(CODE_30, [])
        for other in STRANGE + (CODE_30, Machine, Run(FULL, [])):
            self.assertFalse(one == other)
            self.assertTrue(one != other)
        with self.assertRaises(TypeError):
            iter(one)
        for other in (one, Run(FULL, [])):
            self.assertFalse(codes.is_votes(other) or codes.is_code(other) or codes.is_strikes(CODE_30, other))
            self.assertFalse(codes.is_instruction(CODE_30, 0, other))
            self.assertFalse(codes.is_code((other,) * 4) or codes.is_strikes(CODE_30, [other]))
            self.assertRaises(BadCode, Machine, other, [])
            self.assertRaises(BadInputs, Machine, CODE_30, other)
            self.assertRaises(BadStrikes, Machine, CODE_30, [], other)
            self.assertRaises(BadCodeText, codetexts.code_of, other)
            self.assertRaises(BadThing, flows.reached, FULL, other)
            self.assertRaises(BadOrder, machine.renumbered, CODE_30, other)

    def test_errors_leave_a_machine_as_it_is(self):
        one = Machine(FULL_CODE, [17], STRIKES)
        one.go(3)
        before = (one.moment(), one.row, one.steps, one.address)
        for call in (
            lambda: one.go(-1),
            lambda: one.strike(3, ("slot",), 1),
            lambda: one.strike(0, ("slot", 0), 1),
            lambda: one.strike(0, ("slot",), 100),
            lambda: one.own(0, 1),
        ):
            self.assertRaises(ValueError, call)
        self.assertEqual((one.moment(), one.row, one.steps, one.address), before)

    def test_modules_hold_no_state(self):
        machine.struck(FULL_CODE, [17], STRIKES, 50)
        other = Machine(FULL_CODE, [17])
        self.assertEqual((other.row, other.steps, other.registers(0), other.address), ([], 0, (0,) * 8, 0))


if __name__ == "__main__":
    unittest.main()
