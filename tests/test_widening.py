"""Codes of one hue and of several: [33], [34], [35]."""

import unittest

from hueward.codes import is_code
from hueward.compiling import compiled, narrowed, own_steps, widened
from hueward.errors import BadCode, BadHue, BadInputs, BadSteps, BadVotes, TooLarge
from hueward.machine import Machine, first_parting, machine_row
from tests.coding import ALL_VOTES, CODE_30, FULL_CODE, CodeMaker, coded, codes_of_one_hue, some_codes
from tests.compiling import HAND_MADE, all_programs, blocks, is_instruction_cell, machine_of, made
from tests.samples import STRANGE

WRONG_WHOLES = (-1, True, False, None, "0", (0,), [0], {}, 10 ** 99)
SOME_VOTES = ((1,), (1, 2), (1, 2, 2), (1, 2, 3), (1, 2, 2, 3, 3))


def of_one(*cells, **more):
    """A code of one hue with these cells."""
    return coded(*cells, votes=(1,), **more)


def plain_widened(code, votes):
    """The widened code, block by block."""
    cells, firsts = [], {}
    for first, block in blocks(code):
        firsts[first] = len(cells)
        for hue in range(len(votes)):
            cells += [(hue,) + cell[1:] for cell in block if is_instruction_cell(cell)]
        cells += [cell for cell in block if not is_instruction_cell(cell)]
    for at, cell in enumerate(cells):
        if cell[0] in ("goto", "turn"):
            cells[at] = (cell[0], firsts[cell[1]]) + cell[2:]
        if cell[0] in ("show", "turn", "take"):
            cells[at] = cells[at][:2] + (len(votes),)
    return (votes, code[1], tuple(cells), code[3])


def plain_narrowed(code, hue):
    """The narrowed code, cell by cell."""
    kept = [at for at, cell in enumerate(code[2]) if not is_instruction_cell(cell) or cell[0] == hue]
    cells = []
    for at in kept:
        cell = code[2][at]
        if cell[0] in ("goto", "turn"):
            cell = (cell[0], len([other for other in kept if other < cell[1]])) + cell[2:]
        if cell[0] in ("show", "turn", "take"):
            cell = cell[:2] + (1,)
        cells.append((0,) + cell[1:] if is_instruction_cell(cell) else cell)
    if not kept or any([cell[0] in ("goto", "turn") and cell[1] == len(kept) for cell in cells]):
        cells.append(("stop",))
    return ((1,), code[1], tuple(cells), code[3])


def settle_logs(code, inputs, many):
    """What a code of one hue has at its first settles: the address, and the slot or the state."""
    machine = Machine(code, inputs)
    found = []
    for _ in range(2000):
        at = machine.address
        if len(found) == many or machine.state != "running":
            break
        hue = machine.moment()[0][0]
        word = code[2][at][0] if at is not None else None
        if word in ("show", "turn"):
            found.append((word, hue[3]))
        elif word == "mark":
            found.append((word, hue[:2]))
        elif isinstance(word, str):
            found.append((word,))
        machine.go(1)
    return found, machine.state


class Widened(unittest.TestCase):

    def test_example(self):
        code = of_one((0, "set", 0, 3), (0, "offer", 0), ("show", 1, 1), ("goto", 1))
        self.assertEqual(widened(code, (1, 2)), coded(
            (0, "set", 0, 3), (1, "set", 0, 3), (0, "offer", 0), (1, "offer", 0), ("show", 1, 2), ("goto", 2),
        ))

    def test_each_block(self):
        code = of_one(
            (0, "plus", 1, 2, 3), (0, "get", 1, 2, 0, 3), ("take", 4, 1), ("mark",), (0, "put", 1, 2, 1, 2),
            ("turn", 4, 1), (0, "set", 0, 1), (0, "offer", 7), ("goto", 7), ("stop",), (0, "set", 1, 1), bank=(4, 5, 6),
        )
        self.assertEqual(widened(code, (1, 2)), coded(
            (0, "plus", 1, 2, 3), (0, "get", 1, 2, 0, 3), (1, "plus", 1, 2, 3), (1, "get", 1, 2, 0, 3), ("take", 4, 2),
            ("mark",), (0, "put", 1, 2, 1, 2), (1, "put", 1, 2, 1, 2), ("turn", 6, 2), (0, "set", 0, 1),
            (1, "set", 0, 1), (0, "offer", 7), (1, "offer", 7), ("goto", 11), ("stop",), (0, "set", 1, 1),
            (1, "set", 1, 1), bank=(4, 5, 6),
        ))

    def test_one_hue_changes_nothing(self):
        for code in codes_of_one_hue(100):
            self.assertEqual(widened(code, (1,)), code)

    def test_others(self):
        for at, code in enumerate(codes_of_one_hue(300)):
            votes = ALL_VOTES[at % len(ALL_VOTES)]
            found = widened(code, votes)
            self.assertTrue(is_code(found))
            self.assertEqual(found, plain_widened(code, votes))

    def test_rows(self):
        """The same row, caught exactly if that one is, ended as it, and unanimous."""
        ends = {}
        for at, code in enumerate(codes_of_one_hue(400)):
            votes = ALL_VOTES[at % len(ALL_VOTES)]
            inputs = [7, at, 0]
            one = machine_of(code, inputs, 60)
            wide = Machine(widened(code, votes), inputs)
            wide.go(60 * len(votes))
            self.assertEqual(wide.row[:len(one.row)], one.row)
            if one.state != "running":
                self.assertEqual((wide.row, wide.state, wide.left), (one.row, one.state, one.left))
            parting = first_parting(widened(code, votes), inputs, 60 * len(votes))
            self.assertEqual(parting, wide.steps - 1 if wide.state == "caught" else None)
            ends[one.state] = ends.get(one.state, 0) + 1
        self.assertGreater(min(ends.values()), 40)

    def test_counts_of_steps(self):
        """Behind each settle h times as many instructions and as many settles: [33] and [35]."""
        seen = 0
        for at, code in enumerate(codes_of_one_hue(150)):
            votes = ALL_VOTES[at % len(ALL_VOTES)]
            wide = widened(code, votes)
            machine = Machine(code, [at])
            for step in range(40):
                here = machine.address
                machine.go(1)
                if machine.state == "caught" or here is None or is_instruction_cell(code[2][here]):
                    continue
                rows, settles = own_steps(code, [at], step + 1)
                self.assertEqual(rows + settles, step + 1)
                total = len(votes) * rows + settles
                self.assertEqual(own_steps(wide, [at], total), (len(votes) * rows, settles))
                self.assertEqual(machine_row(wide, [at], total), machine.row)
                self.assertEqual(own_steps(wide, [at], total - 1), (len(votes) * rows, settles - 1))
                seen += 1
        self.assertGreater(seen, 500)

    def test_too_large(self):
        one = of_one(*[(0, "offer", 0)] * 1999 + [("stop",)] * 2)
        self.assertEqual(len(widened(one, (1, 2))[2]), 4000)
        self.assertRaises(TooLarge, widened, of_one(*[(0, "offer", 0)] * 2000 + [("stop",)]), (1, 2))
        self.assertRaises(TooLarge, widened, of_one(*[(0, "offer", 0)] * 1999 + [("stop",)] * 3), (1, 2))
        self.assertEqual(len(widened(of_one(*[("stop",)] * 4000), (1, 2, 2, 3, 3))[2]), 4000)

    def test_wrong(self):
        for code in STRANGE + (list(CODE_30), CODE_30, FULL_CODE):
            self.assertRaises(BadCode, widened, code, None)
        for votes in STRANGE + ((1, 1), [1], (True,), (1, 2, 2, 3, 3, 4)):
            self.assertRaises(BadVotes, widened, of_one(*[(0, "offer", 0)] * 4000), votes)


class Compiled(unittest.TestCase):

    def test_it_is_the_widened_one(self):
        seen = 0
        for program in all_programs(100, 30):
            one = made(program, (1,))
            for votes in SOME_VOTES:
                code = made(program, votes)
                if code is not None:
                    self.assertEqual(code, widened(one, votes))
                    seen += 1
        self.assertGreater(seen, 400)

    def test_offers_and_ends(self):
        for program in all_programs(100, 30):
            for votes in SOME_VOTES[::2]:
                code = made(program, votes)
                if code is None:
                    continue
                self.assertIn(code[2][-1][0], ("stop", "goto"))
                for _, block in blocks(code):
                    for hue in range(len(votes)):
                        own = [cell for cell in block if cell[0] == hue]
                        offers = [cell for cell in own if cell[1] == "offer"]
                        right = own[-1:] if block[-1][0] in ("show", "turn") else []
                        self.assertEqual(offers, right)
                    if block[-1][0] in ("show", "turn"):
                        self.assertEqual(len([cell for cell in block if cell[1] == "offer"]), len(votes))


class Narrowed(unittest.TestCase):

    def test_example(self):
        code = coded((0, "set", 0, 1), (1, "set", 3, 2), ("turn", 1, 3), (1, "offer", 3), ("goto", 4), ("take", 2, 2),
                     (2, "offer", 0), ("show", 5, 1), (0, "offer", 1), votes=(1, 2, 2), bank=(3,))
        self.assertEqual(narrowed(code, 0), of_one(
            (0, "set", 0, 1), ("turn", 1, 1), ("goto", 2), ("take", 2, 1), ("show", 5, 1), (0, "offer", 1), bank=(3,),
        ))
        self.assertEqual(narrowed(code, 1), of_one(
            (0, "set", 3, 2), ("turn", 0, 1), (0, "offer", 3), ("goto", 3), ("take", 2, 1), ("show", 5, 1), bank=(3,),
        ))

    def test_goals_that_have_nothing_left(self):
        code = coded(("turn", 2, 2), ("goto", 3), (1, "offer", 0), (1, "offer", 1))
        self.assertEqual(narrowed(code, 0), of_one(("turn", 2, 1), ("goto", 2), ("stop",)))
        self.assertEqual(narrowed(code, 1), of_one(("turn", 2, 1), ("goto", 3), (0, "offer", 0), (0, "offer", 1)))
        self.assertEqual(narrowed(coded((1, "offer", 0), (1, "offer", 1)), 0), of_one(("stop",)))
        self.assertEqual(narrowed(coded(("goto", 0), (1, "offer", 1)), 0), of_one(("goto", 0)))
        self.assertEqual(narrowed(coded((0, "offer", 0)), 0), of_one((0, "offer", 0)))

    def test_the_largest(self):
        code = coded(*[("goto", 3999)] * 3999 + [(1, "offer", 0)])
        self.assertEqual(narrowed(code, 0)[2], (("goto", 3999),) * 3999 + (("stop",),))
        self.assertTrue(is_code(narrowed(code, 0)))

    def test_others(self):
        for code in some_codes(400):
            for hue in range(len(code[0])):
                found = narrowed(code, hue)
                self.assertTrue(is_code(found))
                self.assertEqual(found, plain_narrowed(code, hue))

    def test_there_and_back(self):
        for at, code in enumerate(codes_of_one_hue(200)):
            votes = ALL_VOTES[at % len(ALL_VOTES)]
            for hue in range(len(votes)):
                self.assertEqual(narrowed(widened(code, votes), hue), code)
        for program in HAND_MADE:
            code = made(program, (1, 2))
            if code is not None:
                self.assertEqual([narrowed(code, hue) for hue in (0, 1)], [compiled(program, (1,))] * 2)

    def full_code(self, seed):
        """A code of full width whose hues now and then differ."""
        maker = CodeMaker(seed)
        code = maker.alike()
        cells = list(code[2])
        for _ in range(maker.chance.randrange(3)):
            at = maker.chance.randrange(len(cells))
            if is_instruction_cell(cells[at]):
                cells[at] = maker.instruction(cells[at][0])
        found = code[:2] + (tuple(cells),) + code[3:]
        return found if is_code(found) else code

    def test_each_hue_alone(self):
        """A code of full width that is sure has the row of each of its hues alone, and ends as it."""
        sure = 0
        for seed in range(300):
            code = self.full_code(seed)
            if first_parting(code, [seed, 3], 150) is not None:
                continue
            sure += 1
            whole = machine_of(code, [seed, 3], 150)
            for hue in range(len(code[0])):
                alone = machine_of(narrowed(code, hue), [seed, 3], 150)
                self.assertEqual(alone.row[:len(whole.row)], whole.row)
                if whole.state == "stopped":
                    self.assertEqual((alone.row, alone.state), (whole.row, "stopped"))
        self.assertGreater(sure, 80)

    def test_sure_exactly_if_each_hue_alone_does_the_same(self):
        parted = 0
        for seed in range(300):
            code = self.full_code(seed)
            logs = [settle_logs(narrowed(code, hue), [seed, 3], 12) for hue in range(len(code[0]))]
            if min([len(log) for log, _ in logs]) < 12 and [state for _, state in logs].count("running"):
                continue
            alike = all([log == logs[0] for log in logs]) and all([state != "caught" for _, state in logs])
            machine = Machine(code, [seed, 3])
            settles, parting = 0, first_parting(code, [seed, 3], 3000)
            while settles < 12 and machine.state == "running" and machine.steps != parting:
                here = machine.address
                settles += here is not None and not is_instruction_cell(code[2][here])
                machine.go(1)
            sure = machine.steps != parting
            self.assertEqual(sure, alike, (seed, parting))
            parted += not sure
        self.assertGreater(parted, 60)

    def test_wrong(self):
        for code in STRANGE + (list(CODE_30),):
            self.assertRaises(BadCode, narrowed, code, None)
        for hue in (2,) + WRONG_WHOLES:
            self.assertRaises(BadHue, narrowed, CODE_30, hue)


class OwnSteps(unittest.TestCase):

    def test_example(self):
        for steps, found in ((0, (0, 0)), (1, (1, 0)), (4, (4, 0)), (5, (4, 1)), (6, (4, 2)), (7, (4, 2)),
                             (1000000, (4, 2))):
            self.assertEqual(own_steps(CODE_30, [], steps), found)

    def test_each_settle(self):
        code = of_one(("take", 0, 1), ("mark",), (0, "offer", 0), ("turn", 4, 1), ("goto", 5), (0, "offer", 0),
                      ("show", 0, 1), ("stop",))
        self.assertEqual(own_steps(code, [3], 100), (2, 6))

    def test_caught_ones_are_neither(self):
        self.assertEqual(own_steps(of_one((0, "set", 0, 1)), [], 100), (1, 0))
        self.assertEqual(own_steps(of_one((0, "set", 0, 1), ("show", 0, 1)), [], 100), (1, 0))
        self.assertEqual(own_steps(coded((0, "set", 0, 1), ("mark",)), [], 100), (1, 0))
        self.assertEqual(own_steps(of_one(("goto", 1), ("turn", 0, 1)), [], 100), (0, 1))

    def test_others(self):
        for at, code in enumerate(some_codes(200)):
            machine = Machine(code, [at])
            rows = settles = 0
            for steps in range(25):
                self.assertEqual(own_steps(code, [at], steps), (rows, settles))
                here = machine.address
                machine.go(1)
                if here is not None and machine.state != "caught":
                    rows += is_instruction_cell(code[2][here])
                    settles += not is_instruction_cell(code[2][here])

    def test_wrong(self):
        for code in STRANGE + (list(CODE_30),):
            self.assertRaises(BadCode, own_steps, code, None, None)
        for inputs in (None, "", [True], [10000], [0] * 401):
            self.assertRaises(BadInputs, own_steps, CODE_30, inputs, None)
        for steps in (1000001,) + WRONG_WHOLES:
            self.assertRaises(BadSteps, own_steps, CODE_30, [], steps)


if __name__ == "__main__":
    unittest.main()
