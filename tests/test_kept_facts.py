"""What marks keep under any number of strikes, and how slow strikes make it: [55] and [56]."""

import unittest

from hueward.compiling import compiled
from hueward.errors import BadCode, BadInputs, BadMany, BadSteps
from hueward.machine import Machine, first_parting
from hueward.markplaces import with_marks
from hueward.marks import Kept, most_again, resumed, slowest
from tests.coding import ALL_VOTES, CODE_30, CodeMaker, coded
from tests.compiling import HAND_MADE, blocks, made
from tests.samples import STRANGE
from tests.test_marks import CODE_53, LOOP

STEPS = 400
SEVERAL = tuple([votes for votes in ALL_VOTES if len(votes) > 1])


class Heart(unittest.TestCase):
    """[55]."""

    def setUp(self):
        self.seen = {"back": 0, "kept": 0, "stopped": 0, "many": 0}

    def lay(self, code, inputs, chance):
        """A Kept, struck in fewer than enough hues in each leg; how many strikes it had."""
        maker = CodeMaker(0)
        maker.chance = chance
        kept = Kept(code, inputs)
        need = code[0][-1]
        hues = range(len(code[0]))
        some = chance.sample(hues, chance.randint(1, need - 1)) if need > 1 else []
        many = legs = 0
        while kept.steps < STEPS and kept.state == "running":
            if len(kept.legs) > legs:
                legs = len(kept.legs)
                some = chance.sample(hues, chance.randint(1, need - 1)) if need > 1 else []
            while some and chance.random() < 0.2:
                hue = chance.choice(some)
                kept.strike(hue, *maker.struck_thing(code, hue))
                many += 1
            kept.go(1)
            self.check_now(kept)
        return kept, many

    def check_now(self, kept):
        """What is held and given out is a beginning of the unstruck row at any time."""
        row = kept.out + kept.held
        self.assertEqual(row, self.row[:len(row)])
        keepings = len([leg for leg in kept.legs if leg[2] == "kept"])
        if keepings < len(self.points):
            self.assertEqual(kept.kept, self.points[keepings])
            if kept.state == "running":
                self.assertEqual(len(kept.out), self.outs[keepings])
        if kept.state == "stopped":
            self.assertEqual(kept.out, self.row)

    def look_at_unstruck(self, code, inputs):
        """The unstruck row, what is kept at each keeping, how much is given out by then, and the steps of each leg."""
        kept = Kept(code, inputs)
        self.points, self.outs = [kept.kept], [0]
        while kept.steps < STEPS and kept.state == "running":
            kept.go(1)
            if len([leg for leg in kept.legs if leg[2] == "kept"]) == len(self.points):
                self.points.append(kept.kept)
                self.outs.append(len(kept.out))
        self.row = Machine(code, inputs)
        self.row.go(STEPS)
        self.row = self.row.row
        self.legs = [steps for steps, _, _ in kept.legs]

    def check(self, code, inputs, chance):
        if first_parting(code, inputs, STEPS) is not None:
            return
        self.look_at_unstruck(code, inputs)
        kept, many = self.lay(code, inputs, chance)
        need, hues = code[0][-1], len(code[0])
        each = hues - need + 1
        done = backs = 0
        for steps, struck, end in kept.legs:
            self.seen[end] += 1
            self.assertLess(len(struck), need)
            if len(struck) <= hues - need:
                self.assertNotEqual(end, "back")
            if done < len(self.legs):
                if end == "back":
                    self.assertLessEqual(steps, self.legs[done])
                else:
                    self.assertEqual(steps, self.legs[done])
            done += end != "back"
            backs += end == "back"
        self.assertLessEqual(backs, many // each if each < need else 0)
        self.seen["many"] += many
        if kept.state == "stopped":
            self.check_resumed(code, kept)

    def check_resumed(self, code, kept):
        """From the checkpoint the rest comes."""
        other = resumed(code, kept.kept)
        other.go(STEPS)
        keepings = len([leg for leg in kept.legs if leg[2] == "kept"])
        self.assertEqual(other.out, self.row[self.outs[keepings]:])

    def test_random_codes(self):
        for seed in range(600):
            maker = CodeMaker(seed, 12)
            code = maker.alike(maker.chance.choice(SEVERAL))
            for _ in range(2):
                self.check(code, maker.inputs(), maker.chance)
        self.assertGreater(min(self.seen.values()), 20, self.seen)

    def test_even_codes_with_marks_at_all_labels(self):
        for at, program in enumerate(HAND_MADE[:14]):
            code = made(program, SEVERAL[at % len(SEVERAL)])
            if code is not None and len(code[2]) < 1500:
                code = with_marks(code, [first for first, _ in blocks(code)])
                self.check(code, [3, 1, 4, 1, 5], CodeMaker(at).chance)
        self.assertGreater(self.seen["back"], 20)
        self.assertGreater(self.seen["kept"], 50)

    def test_the_code_of_the_example(self):
        for seed in range(60):
            self.check(CODE_53, [], CodeMaker(seed).chance)
            self.check(LOOP, [3, 14, 159], CodeMaker(seed).chance)

    def test_enough_hues_keep_what_is_wrong(self):
        kept = Kept(CODE_53, [], [(5, 0, ("register", 0), 8), (5, 1, ("register", 0), 8)])
        kept.go(6)
        self.assertEqual(kept.kept[1][0], 8)


class Again(unittest.TestCase):
    """[56]."""

    def unstruck(self, code, inputs, steps):
        """The legs of the unstruck Kept, if it stops and never goes back."""
        kept = Kept(code, inputs)
        kept.go(steps)
        if kept.state != "stopped" or "back" in [end for _, _, end in kept.legs]:
            return None
        return [leg[0] for leg in kept.legs]

    def check(self, code, inputs, many, steps):
        legs = self.unstruck(code, inputs, steps)
        again = most_again(code, inputs, many, steps)
        strikes = slowest(code, inputs, many, steps)
        need = code[0][-1]
        each = len(code[0]) - need + 1
        if legs is None:
            self.assertEqual((again, strikes), (None, None))
            return None
        self.assertEqual(again, (many // each) * max(legs) if each < need else 0)
        if again + sum(legs) > 10 ** 6:
            self.assertIsNone(strikes)
            return None
        self.assertIsInstance(strikes, list)
        self.assertLessEqual(len(strikes), many)
        kept = Kept(code, inputs, strikes)
        kept.go(10 ** 6)
        self.assertEqual((kept.state, kept.steps), ("stopped", again + sum(legs)))
        self.assertLess(max([len(leg[1]) for leg in kept.legs]), need)
        return strikes

    def test_the_example(self):
        self.assertEqual(most_again(CODE_53, [], 1, 100), 6)
        strikes = self.check(CODE_53, [], 1, 100)
        self.assertEqual(len(strikes), 1)
        kept = Kept(CODE_53, [], [(5, 0, ("pointer",), 9999)])
        kept.go(100)
        self.assertEqual((kept.steps, kept.state), (13, "stopped"))

    def test_all_votes(self):
        offers = [(hue, "offer", 0) for hue in range(5)]
        for votes in ALL_VOTES:
            hues = len(votes)
            code = coded(("take", 0, hues), ("mark",), *offers[:hues], ("show", 0, hues), ("stop",), votes=votes)
            for many in (0, 1, 2, 3, 4, 7, 12):
                self.check(code, [3], many, 100)

    def test_just_enough_steps(self):
        for steps, again in ((6, None), (7, 6), (8, 6)):
            self.assertEqual(most_again(CODE_53, [], 1, steps), again)
            self.assertEqual(slowest(CODE_53, [], 1, steps) is None, again is None)
        self.assertIsNone(most_again(CODE_53, [], 0, 0))

    def test_codes_that_do_not_stop_or_go_back_unstruck(self):
        for code in (LOOP, coded((0, "set", 1, 1), ("mark",), ("stop",)), coded(("take", 0, 2))):
            self.assertIsNone(most_again(code, [], 400, 1000))
            self.assertIsNone(slowest(code, [], 400, 1000))

    def test_many(self):
        self.assertEqual(most_again(CODE_53, [], 0, 100), 0)
        self.assertEqual(slowest(CODE_53, [], 0, 100), [])
        self.assertEqual(most_again(CODE_53, [], 400, 100), 2400)
        self.assertEqual(len(self.check(CODE_53, [], 400, 100)), 400)

    def test_the_last_leg_and_the_first_one(self):
        long = [(hue, "plus", 0, 0, 1) for _ in range(5) for hue in range(2)]
        for cells in ([("mark",)] + long + [("stop",)], long + [("mark",), ("stop",)], [("stop",)],
                      [("mark",)] + long + [("mark",)] + long + [("stop",)]):
            for many in (1, 2, 5):
                self.check(coded(*cells), [], many, 100)

    def test_sums_above_the_most_steps(self):
        rows = [(hue, "plus", 0, 0, 1) for _ in range(1000) for hue in range(2)]
        code = coded(*rows, ("stop",))
        self.assertEqual(most_again(code, [], 400, 5000), 400 * 2001)
        self.assertEqual(len(self.check(code, [], 400, 5000)), 400)
        code = coded((0, "set", 0, 1), (1, "set", 0, 1), *rows, ("stop",), size=10000)
        self.assertEqual(most_again(code, [], 400, 5000), 400 * 2003)
        # Exactly at the bound, and one step of a leg beyond.
        rows = [(hue, "plus", 0, 0, 1) for _ in range(1249) for hue in range(2)]
        for more in (0, 1):
            code = coded(*rows, *[("goto", 2499 + at) for at in range(more + 1)], ("stop",))
            self.assertEqual(most_again(code, [], 399, 5000), 399 * (2500 + more))
            self.assertEqual(self.check(code, [], 399, 5000) is None, more == 1)

    def test_random_codes(self):
        found = 0
        for seed in range(500):
            maker = CodeMaker(seed, 12)
            code = maker.alike() if seed % 4 else maker.code()
            found += self.check(code, maker.inputs(), maker.chance.randrange(9), 60) is not None
        self.assertGreater(found, 60)

    def test_compiled_codes(self):
        program = (10, (), (), (("take", "x"), ("show", 0, ("local", "x")), ("mark",), ("show", 1, ("number", 3))))
        for votes in SEVERAL:
            self.check(compiled(program, votes), [7], 6, 1000)

    def test_no_strikes_need_more_steps(self):
        """Beside some strikes at random, in few hues of each leg."""
        for seed in range(300):
            chance = CodeMaker(seed).chance
            many = chance.randint(1, 6)
            steps = sorted([chance.randrange(30) for _ in range(many)])
            new = (("pointer",), 9999) if seed % 2 else (("slot",), None)
            strikes = [(step, chance.randrange(2)) + new for step in steps]
            kept = Kept(CODE_53, [], strikes)
            kept.go(1000)
            if max([len(leg[1]) for leg in kept.legs]) < 2:
                self.assertLessEqual(kept.steps, 7 + most_again(CODE_53, [], many, 100))

    def test_errors_from_left_to_right(self):
        for function in (most_again, slowest):
            for bad in STRANGE:
                self.assertRaises(BadCode, function, bad, None, None, None)
            self.assertRaises(BadInputs, function, CODE_30, None, None, None)
            for bad in (None, True, -1, 401, "1", [1]):
                self.assertRaises(BadMany, function, CODE_30, [], bad, None)
            for bad in (None, True, -1, 1000001, "1", [1]):
                self.assertRaises(BadSteps, function, CODE_30, [], 400, bad)


if __name__ == "__main__":
    unittest.main()
