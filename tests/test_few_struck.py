"""What compiled codes, and codes with papers, keep under strikes of few hues: [46]."""

import random
import unittest

from hueward.errors import NoPaper
from hueward.machine import Machine, first_parting, struck
from hueward.papermaking import made_paper
from hueward.thresholds import judged
from tests.coding import ALL_VOTES, CodeMaker
from tests.compiling import all_programs, is_beginning, is_instruction_cell, machine_of, made
from tests.papering import CODE_44, paper_codes

STEPS = 1500


def settle_steps(code, inputs):
    """The numbers of the steps that are settles, and how many steps there are."""
    machine = Machine(code, inputs)
    found = []
    while machine.state == "running" and machine.steps < STEPS:
        if machine.address is not None and not is_instruction_cell(code[2][machine.address]):
            found.append(machine.steps)
        machine.go(1)
    return found, machine.steps


def some_strikes(code, inputs, hues, many, chance):
    """Strikes of these hues, many of them just ahead of settles, and many in all of them alike."""
    steps, count = settle_steps(code, inputs)
    maker = CodeMaker(0)
    maker.chance = chance
    found = []
    for _ in range(many):
        step = chance.choice(steps) if steps and chance.random() < 0.5 else chance.randrange(max(1, count))
        if chance.random() < 0.5:
            number = chance.choice((0, 1, chance.randrange(code[1])))
            place = chance.choice((("slot",), ("slot",), ("register", chance.randrange(8))))
            found.extend([(step, hue, place, number) for hue in hues])
        else:
            hue = chance.choice(hues)
            found.append((step, hue) + maker.struck_thing(code, hue))
    return sorted(found, key=lambda strike: strike[0])[:400]


class FewHues(unittest.TestCase):

    def setUp(self):
        self.seen = {"wrong": 0, "caught": 0, "same": 0, "whole": 0}

    def check(self, code, inputs, chance):
        """Strikes some hues of a code that is sure with these inputs."""
        hues, need = len(code[0]), code[0][-1]
        many = chance.randint(1, hues)
        strikes = some_strikes(code, inputs, chance.sample(range(hues), many), chance.randint(1, 6), chance)
        one, other = struck(code, inputs, strikes, STEPS), machine_of(code, inputs, STEPS)
        if many >= need:
            self.seen["wrong"] += not is_beginning(one.row, other.row)
            return
        self.assertEqual(one.row, other.row[:len(one.row)])
        word = judged(code, inputs, strikes, STEPS)
        self.assertIn(word, ("same",) if many <= hues - need else ("same", "caught"))
        if one.state != "caught":
            self.assertEqual((one.row, one.state, one.steps), (other.row, other.state, other.steps))
        if many <= hues - need:
            self.assertNotEqual(one.state, "caught")
            self.seen["whole"] += 1
        for steps in (one.steps // 2, chance.randrange(one.steps + 1)):
            shorter = struck(code, inputs, strikes, steps)
            self.assertEqual(shorter.row, machine_of(code, inputs, steps).row[:len(shorter.row)])
        self.seen["caught" if one.state == "caught" else "same"] += 1

    def test_compiled_codes(self):
        for at, program in enumerate(all_programs(150, 40)):
            chance = random.Random(at)
            votes = ALL_VOTES[at % len(ALL_VOTES)]
            code = made(program, votes)
            if code is not None:
                inputs = [chance.randrange(10000) for _ in range(5)]
                for _ in range(2):
                    self.check(code, inputs, chance)
        self.assertGreater(min(self.seen.values()), 7, self.seen)

    def test_codes_with_papers(self):
        for at, code in enumerate(paper_codes(900) + [CODE_44] * 30):
            full = all([cell[-1] == len(code[0]) for cell in code[2] if cell[0] in ("show", "turn", "take")])
            if not full or len(code[0]) == 1:
                continue
            try:
                made_paper(code)
            except NoPaper:
                continue
            chance = random.Random(at)
            inputs = [chance.randrange(10000) for _ in range(5)]
            self.assertIsNone(first_parting(code, inputs, 500))
            for _ in range(2):
                self.check(code, inputs, chance)
        self.assertGreater(min(self.seen.values()), 7, self.seen)


if __name__ == "__main__":
    unittest.main()
