"""Struck runs, unanimous ones, and hues with other numbers: [28], [29], [30]."""

import itertools
import unittest

from hueward.codes import is_code, is_strikes, settles
from hueward.errors import BadCode, BadInputs, BadOrder, BadSteps, BadStrikes
from hueward.machine import Machine, first_parting, machine_row, renumbered, strikes_renumbered, struck
from tests.coding import CODE_30, FULL_CODE, CodeMaker, coded
from tests.samples import STRANGE

WRONG_WHOLES = (-1, True, False, None, "0", (0,), [0], {}, 10 ** 99)


def parts_of(machine, hue):
    """The registers, bank cells, pointer and slot of a hue."""
    return machine.moment()[0][hue][:4]


def few_hues(code, chance):
    """Hues of which fewer than votes tell are below each width of the code's settles, and below all hues."""
    votes = code[0]
    widths = {len(votes)} | {cell[-1] for cell in code[2] if cell[0] in ("show", "turn", "take")}
    found = []
    for hue in chance.sample(range(len(votes)), len(votes)):
        more = found + [hue]
        if all(len([other for other in more if other < width]) < votes[width - 1] for width in widths):
            found = more
    return found


class Struck(unittest.TestCase):

    def test_example(self):
        machine = struck(CODE_30, [], [], 100)
        self.assertEqual((machine.row, machine.steps, machine.state), ([("show", 1, 7), ("stop",)], 6, "stopped"))
        machine = struck(CODE_30, [], [(2, 1, ("register", 0), 8)], 100)
        self.assertEqual((machine.row, machine.steps, machine.state), ([], 5, "caught"))
        machine = struck(CODE_30, [], [(2, 0, ("register", 0), 8), (2, 1, ("register", 0), 8)], 100)
        self.assertEqual(machine.row, [("show", 1, 8), ("stop",)])

    def test_it_is_a_machine_behind_so_many_steps(self):
        for seed in range(80):
            maker = CodeMaker(seed)
            code = maker.code()
            inputs, strikes, steps = maker.inputs(), maker.strikes(code, 3, 9), maker.chance.randrange(12)
            machine = Machine(code, inputs, strikes)
            machine.go(steps)
            found = struck(code, inputs, strikes, steps)
            self.assertIsInstance(found, Machine)
            self.assertEqual((found.moment(), found.steps, found.row), (machine.moment(), machine.steps, machine.row))
            self.assertEqual(machine_row(code, inputs, steps, strikes), machine.row)
            found.go(9)
            machine.go(9)
            self.assertEqual((found.moment(), found.steps), (machine.moment(), machine.steps))

    def test_row_without_strikes(self):
        self.assertEqual(machine_row(CODE_30, [], 4), [])
        self.assertEqual(machine_row(CODE_30, [], 5), [("show", 1, 7)])
        self.assertEqual(machine_row(CODE_30, (), 100, ()), [("show", 1, 7), ("stop",)])
        self.assertEqual(machine_row(CODE_30, [], 100, [(2, 1, ("register", 0), 8)]), [])

    def test_wrong(self):
        for code in STRANGE + (list(CODE_30),):
            self.assertRaises(BadCode, struck, code, None, None, None)
            self.assertRaises(BadCode, machine_row, code, None, None, None)
            self.assertRaises(BadCode, first_parting, code, None, None)
        for inputs in (None, "", [True], [10000]):
            self.assertRaises(BadInputs, struck, CODE_30, inputs, None, None)
            self.assertRaises(BadInputs, machine_row, CODE_30, inputs, None, None)
            self.assertRaises(BadInputs, first_parting, CODE_30, inputs, None)
        self.assertRaises(BadStrikes, struck, CODE_30, [], [None], None)
        for steps in (1000001,) + WRONG_WHOLES:
            self.assertRaises(BadSteps, struck, CODE_30, [], [], steps)
            self.assertRaises(BadSteps, machine_row, CODE_30, [], steps, None)
            self.assertRaises(BadSteps, first_parting, CODE_30, [], steps)
        self.assertRaises(BadStrikes, machine_row, CODE_30, [], 1000000, None)


class Apart(unittest.TestCase):

    def test_an_instruction_changes_its_own_hue_alone(self):
        done = 0
        for seed in range(300):
            maker = CodeMaker(seed)
            code = maker.code()
            machine = Machine(code, maker.inputs())
            for _ in range(12):
                hue = maker.chance.randrange(len(code[0]))
                machine.strike(hue, *maker.struck_thing(code, hue))
                address = machine.address
                before = machine.moment()
                machine.go(1)
                after = machine.moment()
                if machine.state != "running" or address in settles(code):
                    continue
                done += 1
                for hue in range(len(code[0])):
                    if hue != code[2][address][0]:
                        self.assertEqual(after[0][hue][:2] + after[0][hue][3:], before[0][hue][:2] + before[0][hue][3:])
                self.assertEqual(after[1], before[1])
        self.assertGreater(done, 300)

    def test_other_hues_are_untouched(self):
        """The fact of [28]: strikes of few hues leave the others, the row and the inputs as they were."""
        tried = parted = 0
        for seed in range(600):
            maker = CodeMaker(seed)
            code = maker.alike()
            inputs = maker.inputs()
            if first_parting(code, inputs, 40) is not None:
                continue
            hues = few_hues(code, maker.chance)
            if not hues:
                continue
            tried += 1
            one = Machine(code, inputs, maker.strikes(code, 4, 30, hues))
            other = Machine(code, inputs)
            for _ in range(40):
                one.go(1)
                other.go(1)
                if one.state == "caught":
                    break
                for hue in range(len(code[0])):
                    if hue not in hues:
                        self.assertEqual(parts_of(one, hue), parts_of(other, hue))
                    elif parts_of(one, hue) != parts_of(other, hue):
                        parted += 1
                self.assertEqual((one.row, one.left, one.state), (other.row, other.left, other.state))
        self.assertGreater(tried, 150)
        self.assertGreater(parted, 150)

    def test_with_lesser_widths(self):
        code = coded(("take", 0, 3), (0, "offer", 0), (1, "offer", 0), (2, "offer", 0), ("show", 0, 1), ("goto", 0),
                     votes=(1, 2, 2))
        for hues, row in (([1, 2], None), ([1], [4]), ([2], [4]), ([0], None)):
            strikes = [(1, hue, ("register", 0), 5) for hue in hues]
            found = [item[2] for item in machine_row(code, [4], 5, strikes) if item[0] == "show"]
            self.assertEqual(found, row or [5 if 0 in hues else 4])


class Partings(unittest.TestCase):

    def test_a_run_that_parts(self):
        offers = [(hue, "offer", 0) for hue in range(3)]
        for cell, state in ((("show", 0, 3), "running"), (("turn", 0, 3), "running"), (("mark",), "running")):
            code = coded((2, "set", 0, 1), *offers, cell, ("stop",), votes=(1, 2, 2))
            self.assertEqual(first_parting(code, [], 100), 4)
            self.assertEqual(first_parting(code, [], 5), 4)
            self.assertIsNone(first_parting(code, [], 4))
            self.assertEqual(struck(code, [], [], 5).state, state)

    def test_empty_slots_are_not_unanimous(self):
        for cell in (("show", 0, 3), ("turn", 0, 3), ("show", 0, 1)):
            code = coded((1, "offer", 0), (2, "offer", 0), cell, ("stop",), votes=(1, 2, 2))
            self.assertEqual(first_parting(code, [], 100), 2)
        code = coded((0, "offer", 0), (2, "offer", 0), ("show", 0, 1), ("stop",), votes=(1, 2, 2))
        self.assertIsNone(first_parting(code, [], 100))

    def test_hues_from_the_width_on_are_not_looked_at(self):
        code = coded((2, "set", 0, 1), (0, "offer", 0), (1, "offer", 0), (2, "offer", 0), ("show", 0, 2), ("stop",),
                     votes=(1, 2, 2))
        self.assertIsNone(first_parting(code, [], 100))

    def test_a_mark_looks_at_all_hues(self):
        for hue in range(3):
            code = coded((hue, "set", 7, 1), ("mark",), ("stop",), votes=(1, 2, 2))
            self.assertEqual(first_parting(code, [], 100), 1)
            code = coded((hue, "set", 7, 1), (hue, "put", 7, 7, 0, 1), (hue, "set", 7, 0), ("mark",), ("stop",),
                         votes=(1, 2, 2), bank=(0,))
            self.assertEqual(first_parting(code, [], 100), 3)
        self.assertIsNone(first_parting(coded((0, "offer", 7), ("mark",), ("stop",)), [], 100))

    def test_a_run_that_is_caught(self):
        self.assertEqual(first_parting(coded((0, "offer", 0), ("show", 0, 2)), [], 100), 1)
        self.assertEqual(first_parting(coded((0, "offer", 0), (1, "offer", 0), ("show", 0, 2)), [], 100), 3)
        self.assertEqual(first_parting(coded(("take", 0, 1)), [], 2), 1)
        self.assertIsNone(first_parting(coded(("take", 0, 1)), [], 1))

    def test_a_run_that_never_does(self):
        self.assertIsNone(first_parting(CODE_30, [], 1000000))
        self.assertIsNone(first_parting(coded(("take", 0, 1), ("goto", 0)), [3], 5000))
        self.assertIsNone(first_parting(CODE_30, [], 0))

    def test_it_hangs_on_the_inputs(self):
        code = coded(("take", 0, 1), (0, "offer", 0), (1, "offer", 0), ("show", 0, 2), ("goto", 0))
        self.assertEqual(first_parting(code, [0, 0, 3], 100), 13)
        self.assertIsNone(first_parting(code, [0, 0], 100))
        self.assertEqual(first_parting(FULL_CODE, [], 100), 14)

    def test_beside_a_run(self):
        """What [29] says, looked up in the moments of the run."""
        found = []
        for seed in range(400):
            maker = CodeMaker(seed)
            code = maker.alike() if seed % 2 else maker.code()
            inputs = maker.inputs()
            machine = Machine(code, inputs)
            told = None
            while told is None and machine.steps < 30 and machine.state == "running":
                cell = code[2][machine.address] if machine.address is not None else None
                hues = machine.moment()[0]
                step = machine.steps
                machine.go(1)
                if machine.state == "caught":
                    told = step
                elif cell[0] in ("show", "turn") and len({hue[3] for hue in hues[:cell[2]]}) > 1:
                    told = step
                elif cell[0] == "mark" and len({hue[:2] for hue in hues}) > 1:
                    told = step
                self.assertTrue(len(set(machine.pointers)) == 1)
            self.assertEqual(first_parting(code, inputs, 30), told)
            found.append(told)
        self.assertGreater(len(set(found)), 10)


class Renumbered(unittest.TestCase):

    def test_codes(self):
        self.assertEqual(renumbered(CODE_30, (1, 0))[2], (
            (1, "set", 0, 7), (0, "set", 0, 7), (1, "offer", 0), (0, "offer", 0), ("show", 1, 2), ("stop",),
        ))
        found = renumbered(FULL_CODE, (2, 0, 1))
        self.assertTrue(is_code(found))
        self.assertEqual((found[0], found[1], found[3]), (FULL_CODE[0], FULL_CODE[1], FULL_CODE[3]))
        for one, other in zip(FULL_CODE[2], found[2]):
            if isinstance(one[0], int):
                self.assertEqual(other, ((2, 0, 1)[one[0]],) + one[1:])
            else:
                self.assertEqual(other, one)

    def test_strikes(self):
        strikes = [(0, 0, ("register", 3), 1), (0, 1, ("cell", 3), 2), (4, 2, ("pointer",), 3), (4, 2, ("slot",), None),
                   (5, 0, ("code", 3), (0, "plus", 1, 2, 2)), (5, 2, ("code", 11), (2, "set", 0, 0))]
        self.assertEqual(strikes_renumbered(FULL_CODE, strikes, (2, 0, 1)), [
            (0, 2, ("register", 3), 1), (0, 0, ("cell", 3), 2), (4, 1, ("pointer",), 3), (4, 1, ("slot",), None),
            (5, 2, ("code", 3), (2, "plus", 1, 2, 2)), (5, 1, ("code", 11), (1, "set", 0, 0)),
        ])
        self.assertEqual(strikes_renumbered(FULL_CODE, (), (2, 0, 1)), [])

    def test_the_same_order_changes_nothing(self):
        self.assertEqual(renumbered(FULL_CODE, (0, 1, 2)), FULL_CODE)
        strikes = [(0, 0, ("code", 3), (0, "plus", 1, 2, 2))]
        self.assertEqual(strikes_renumbered(FULL_CODE, tuple(strikes), (0, 1, 2)), strikes)

    def test_rows_of_full_width(self):
        """The fact of [30]."""
        for seed in range(150):
            maker = CodeMaker(seed)
            code = maker.alike() if seed % 3 else self.full(maker.code())
            inputs = maker.inputs()
            strikes = maker.strikes(code, 4, 15)
            orders = list(itertools.permutations(range(len(code[0]))))
            for order in maker.chance.sample(orders, min(4, len(orders))):
                other = renumbered(code, order)
                moved = strikes_renumbered(code, strikes, order)
                self.assertTrue(is_strikes(other, moved))
                one, two = struck(code, inputs, strikes, 30), struck(other, inputs, moved, 30)
                self.assertEqual((one.row, one.state, one.steps), (two.row, two.state, two.steps))
                for hue in range(len(code[0])):
                    self.assertEqual(parts_of(one, hue), parts_of(two, order[hue]))

    def full(self, code):
        """The code with full widths."""
        cells = [cell[:2] + (len(code[0]),) if cell[0] in ("show", "turn", "take") else cell for cell in code[2]]
        return code[:2] + (tuple(cells),) + code[3:]

    def test_wrong(self):
        orders = STRANGE + ((0,), (0, 0), (1, 1), (0, 1, 2), (0, 2), (1, 2), [0, 1], [1, 0], (False, True), (True, 0),
                            (0, None), (0, "1"), (-1, 0), ((0, 1),), {0: 1, 1: 0})
        for order in orders:
            self.assertRaises(BadOrder, renumbered, CODE_30, order)
            self.assertRaises(BadOrder, strikes_renumbered, CODE_30, [], order)
        for code in STRANGE + (list(CODE_30),):
            self.assertRaises(BadCode, renumbered, code, None)
            self.assertRaises(BadCode, strikes_renumbered, code, None, None)
        with self.assertRaises(BadStrikes) as caught:
            strikes_renumbered(CODE_30, [(0, 0, ("slot",), 10)], None)
        self.assertEqual(caught.exception.at, 0)


if __name__ == "__main__":
    unittest.main()
