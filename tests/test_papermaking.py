"""Making papers and joining codes: [42], [43], [44]."""

import random
import unittest

from hueward.codes import is_code
from hueward.compiling import narrowed, widened
from hueward.errors import BadCode, BadOther, NoPaper, TooLarge
from hueward.machine import Machine, first_parting, machine_row
from hueward.papermaking import joined, made_paper
from hueward.papers import doubts, is_paper, is_shown
from tests.coding import ALL_VOTES, CODE_30, FULL_CODE, CodeMaker, coded, codes_of_one_hue, some_codes
from tests.compiling import all_programs, blocks, is_instruction_cell, machine_of, made
from tests.papering import CODE_44, PAPER_44, SHIFTING, exchanged_some, paper_codes, program_codes, with_cells
from tests.plain_papers import all_spots, plain_paper
from tests.samples import STRANGE

ZEROS = (0, tuple([(hue, at) for hue in (0, 1) for at in range(8)]))


def alike(*cells, hues=2):
    """Instructions without hues, for each hue one behind another."""
    return [(hue,) + cell for cell in cells for hue in range(hues)]


def paper_of(code):
    """The made paper of a code; the address where there is none."""
    try:
        return made_paper(code)
    except NoPaper as error:
        return error.address


def kin_of(table, spot):
    """The number and the spots of the kin that holds a spot; no number and the spot alone if none does."""
    for number, spots in table:
        if spot in spots:
            return (number, spots)
    return (None, (spot,))


def with_kin(table, old, new):
    """The table with a kin in the place of others."""
    return sorted([kin for kin in table if kin not in old] + [new], key=lambda kin: kin[1][0])


class Made(unittest.TestCase):

    def test_example(self):
        self.assertEqual(made_paper(CODE_44), PAPER_44)
        cells = list(CODE_44[2])
        cells[4] = (1, "minus", 4, 5, 0)
        self.assertEqual(paper_of(with_cells(CODE_44, cells)), 7)

    def test_start(self):
        self.assertEqual(made_paper(coded(("stop",))), {0: [ZEROS]})
        bank = made_paper(coded(("stop",), bank=(7, 0, 7, 3)))
        zeros = tuple([(hue, at) for hue in (0, 1) for at in (0, 1, 2, 3, 4, 5, 6, 7, 9)])
        self.assertEqual(bank, {0: [
            (0, zeros), (7, ((0, 8), (0, 10), (1, 8), (1, 10))), (3, ((0, 11), (1, 11))),
        ]})
        self.assertEqual(made_paper(coded(("stop",), votes=(1,), bank=(7,))), {
            0: [(0, tuple([(0, at) for at in range(8)])), (7, ((0, 8),))],
        })

    def test_keys_are_what_is_come_to(self):
        code = coded(("goto", 2), ("goto", 1), (0, "set", 0, 1), ("goto", 4), ("stop",))
        paper = made_paper(code)
        self.assertEqual(list(paper), [0, 2, 4])
        self.assertEqual(paper[4], [(1, ((0, 0),)), (0, ZEROS[1][1:])])

    def test_it_is_narrowed(self):
        code = coded(("take", 0, 2), ("take", 1, 1), ("goto", 0))
        zeros = tuple([(0, at) for at in range(2, 8)] + [(1, at) for at in range(1, 8)])
        self.assertEqual(made_paper(code), {0: [(None, ((0, 0), (1, 0))), (0, zeros)]})

    def test_it_is_narrowed_again_and_again(self):
        # Each time around a number less is left, until none is known but that of the register 7.
        paper = made_paper(SHIFTING)
        pairs = [(None, ((0, at), (1, at))) for at in range(7)]
        self.assertEqual(paper, {0: pairs + [(0, ((0, 7), (1, 7)))]})

    def test_numbers_part_into_kins(self):
        code = coded(*alike(("plus", 1, 1, 0), ("set", 0, 1), ("set", 2, 1)), ("goto", 0))
        paper = made_paper(code)
        self.assertEqual(paper[0][0], (None, ((0, 0), (0, 2), (1, 0), (1, 2))))
        self.assertEqual(paper[0][1], (None, ((0, 1), (1, 1))))

    def test_no_paper_at_each_kind_of_address(self):
        offers = alike(("offer", 0))
        for cells, address in (
            ([("show", 0, 1)], 0),
            ([(0, "offer", 0), ("show", 0, 2), ("stop",)], 1),
            ([("take", 0, 1), *offers, ("show", 0, 2), ("stop",)], 3),
            ([("take", 0, 1), *offers, ("turn", 0, 2), ("stop",)], 3),
            ([("take", 0, 1), ("mark",), ("stop",)], 1),
            ([("take", 0, 2)], 1),
            ([*offers, ("show", 0, 2)], 3),
            ([*offers, ("turn", 0, 2)], 3),
            ([("goto", 1), (0, "set", 0, 0)], 2),
            ([("take", 0, 2), *offers, ("turn", 5, 2), ("goto", 0), (0, "offer", 0)], 6),
            ([("take", 0, 1), ("goto", 0), ("mark",)], None),
            ([*offers, ("show", 0, 2), ("take", 0, 1), ("goto", 0)], 2),
        ):
            found = paper_of(coded(*cells))
            self.assertEqual(found if isinstance(found, int) else None, address, cells)

    def test_the_least_one_that_waits_comes_first(self):
        take = ("take", 0, 2)
        offers = alike(("offer", 0))
        code = coded(take, *offers, ("turn", 6, 2), ("mark",), (0, "offer", 1), ("show", 0, 2), ("stop",))
        self.assertEqual(paper_of(code), 6)
        code = coded(take, *offers, ("turn", 6, 2), ("show", 0, 2), ("stop",), ("show", 1, 2), ("stop",))
        self.assertEqual(paper_of(code), 4)
        # A joint ahead waits again, and is walked ahead of a later one that waits longer.
        code = coded(take, *offers, ("turn", 8, 2), ("take", 1, 1), *alike(("offer", 1)), ("goto", 9), ("goto", 12),
                     ("turn", 11, 2), ("stop",), ("stop",), ("show", 0, 1))
        self.assertEqual(paper_of(code), plain_paper(code))

    def test_others(self):
        shown = {}
        for code in paper_codes(1500):
            if len(code[2]) <= 60:
                found = paper_of(code)
                self.assertEqual(found, plain_paper(code))
                kind = len(found) if isinstance(found, dict) else "none"
                shown[kind] = shown.get(kind, 0) + 1
        self.assertGreater(sum([many for kind, many in shown.items() if kind != "none" and kind > 1]), 150)
        self.assertGreater(shown["none"], 300)

    def test_what_is_told_is_new(self):
        paper = made_paper(CODE_44)
        paper[0].append("more")
        paper[5] = []
        self.assertEqual(made_paper(CODE_44), PAPER_44)
        self.assertIs(made_paper(CODE_44)[0].__class__, list)

    def test_wrong(self):
        for code in STRANGE + (list(CODE_30),):
            self.assertRaises(BadCode, made_paper, code)


class Heart(unittest.TestCase):

    def papers(self, many):
        """Codes with made papers."""
        found = []
        for code in paper_codes(many) + program_codes()[::5]:
            paper = paper_of(code)
            if isinstance(paper, dict):
                found.append((code, paper))
        return found

    def test_it_shows_the_code(self):
        for code, paper in self.papers(600):
            self.assertTrue(is_paper(code, paper))
            self.assertTrue(is_shown(code, paper))
            self.assertEqual(list(paper), sorted(paper))

    def test_one_more_makes_doubts(self):
        equalities = numbers = 0
        for at, (code, paper) in enumerate(self.papers(300)):
            chance = random.Random(at)
            spots = all_spots(code)
            for _ in range(60):
                label = chance.choice(sorted(paper))
                one, other = [kin_of(paper[label], spot) for spot in chance.sample(spots, 2)]
                if one == other or None not in (one[0], other[0]):
                    continue
                number = one[0] if one[0] is not None else other[0]
                more = (number, tuple(sorted(one[1] + other[1])))
                changed = paper | {label: with_kin(paper[label], [one, other], more)}
                self.assertTrue(is_paper(code, changed))
                self.assertNotEqual(doubts(code, changed), [])
                equalities += 1
            for _ in range(30):
                label, number = chance.choice(sorted(paper)), chance.randrange(code[1])
                kin = kin_of(paper[label], chance.choice(spots))
                if kin[0] is None and number not in [told for told, _ in paper[label]]:
                    changed = paper | {label: with_kin(paper[label], [kin], (number, kin[1]))}
                    self.assertTrue(is_paper(code, changed))
                    self.assertNotEqual(doubts(code, changed), [])
                    numbers += 1
        self.assertGreater(equalities, 500)
        self.assertGreater(numbers, 150)

    def test_other_papers_tell_less(self):
        """Any paper that shows the code has all keys of the made one, and tells no more there."""
        seen = 0
        for at, (code, paper) in enumerate(self.papers(300)):
            chance = random.Random(at)
            for _ in range(5):
                other = {label: [kin for kin in table if chance.random() < 0.8] for label, table in paper.items()}
                for label in list(other):
                    if label and chance.random() < 0.1:
                        del other[label]
                if is_shown(code, other):
                    self.assertEqual(sorted(other), sorted(paper))
                    seen += 1
                for label in paper:
                    if label not in other:
                        self.assertFalse(is_shown(code, other))
        self.assertGreater(seen, 100)


class Widened(unittest.TestCase):
    """[43]."""

    def test_papers_of_widened_codes(self):
        papers = 0
        for at, code in enumerate(codes_of_one_hue(300, 16)):
            votes = ALL_VOTES[1 + at % (len(ALL_VOTES) - 1)]
            wide = widened(code, votes)
            one, other = paper_of(code), paper_of(wide)
            self.assertEqual(isinstance(one, dict), isinstance(other, dict))
            if not isinstance(one, dict):
                continue
            papers += 1
            firsts = dict(zip([first for first, _ in blocks(code)], self.new_firsts(code, votes)))
            self.assertEqual(list(other), [firsts[label] for label in one])
            for label in one:
                for hue in range(len(votes)):
                    for spot in range(8 + len(code[3])):
                        number, spots = kin_of(one[label], (0, spot))
                        right = (number, tuple([(own, at) for own in range(len(votes)) for _, at in spots]))
                        self.assertEqual(kin_of(other[firsts[label]], (hue, spot)), right)
        self.assertGreater(papers, 60)

    def new_firsts(self, code, votes):
        """The first addresses of the blocks in the widened code."""
        found, at = [], 0
        for _, block in blocks(code):
            found.append(at)
            rows = len([cell for cell in block if is_instruction_cell(cell)])
            at += rows * len(votes) + len(block) - rows
        return found

    def test_papers_of_compiled_codes(self):
        for at, program in enumerate(all_programs(60, 20)):
            votes = ALL_VOTES[at % len(ALL_VOTES)]
            code = made(program, votes)
            if code is None:
                continue
            paper = made_paper(code)
            self.assertTrue(is_shown(code, paper))
            for table in paper.values():
                for spot in range(8 + len(code[3])):
                    spots = kin_of(table, (0, spot))[1]
                    self.assertTrue(all([(hue, spot) in spots for hue in range(len(votes))]))

    def test_papers_of_narrowed_codes(self):
        seen = 0
        for code in paper_codes(800):
            full = all([cell[-1] == len(code[0]) for cell in code[2] if cell[0] in ("show", "turn", "take")])
            if full and isinstance(paper_of(code), dict):
                for hue in range(len(code[0])):
                    self.assertIsInstance(paper_of(narrowed(code, hue)), dict)
                    seen += 1
        self.assertGreater(seen, 200)


class Joined(unittest.TestCase):

    def test_cells(self):
        code = coded((0, "set", 0, 1), ("turn", 0, 2), ("stop",), (0, "get", 1, 2, 0, 2), ("stop",), bank=(7, 8))
        other = coded((1, "put", 3, 4, 1, 1), (0, "get", 1, 2, 0, 3), ("goto", 4), ("turn", 0, 1), ("stop",), ("mark",),
                      (1, "plus", 1, 2, 3), (0, "set", 4, 5), (1, "offer", 6), ("take", 1, 2), ("show", 2, 1),
                      bank=(4, 5, 6))
        zeros = tuple([(hue, "set", at, 0) for hue in (0, 1) for at in range(8)])
        self.assertEqual(joined(code, other), coded(
            (0, "set", 0, 1), ("turn", 0, 2), ("goto", 5), (0, "get", 1, 2, 0, 2), ("goto", 5), *zeros,
            (1, "put", 3, 4, 3, 1), (0, "get", 1, 2, 2, 3), ("goto", 25), ("turn", 21, 1), ("stop",), ("mark",),
            (1, "plus", 1, 2, 3), (0, "set", 4, 5), (1, "offer", 6), ("take", 1, 2), ("show", 2, 1),
            bank=(7, 8, 4, 5, 6),
        ))

    def test_others(self):
        for one in some_codes(150):
            other = CodeMaker(len(one[2])).code(one[0])
            other = other if other[1] == one[1] else one
            found = joined(one, other)
            self.assertTrue(is_code(found))
            p, b, shift = len(one[2]), len(one[3]), len(one[2]) + 8 * len(one[0])
            self.assertEqual(found[:2] + found[3:], (one[0], one[1], one[3] + other[3]))
            for at, cell in enumerate(one[2]):
                self.assertEqual(found[2][at], ("goto", p) if cell == ("stop",) else cell)
            self.assertEqual(sorted(found[2][p:shift]), sorted([(hue, "set", k, 0) for hue in range(len(one[0]))
                                                                for k in range(8)]))
            for cell, moved in zip(other[2], found[2][shift:]):
                if cell[0] in ("goto", "turn"):
                    cell = (cell[0], cell[1] + shift) + cell[2:]
                if cell[0] not in ("goto", "turn", "show", "take", "stop", "mark") and cell[1] in ("get", "put"):
                    cell = cell[:4] + (cell[4] + b, cell[5])
                self.assertEqual(moved, cell)

    def test_too_large(self):
        stop = ("stop",)
        for hues, votes in ((1, (1,)), (2, (1, 2)), (5, (1, 2, 2, 3, 3))):
            one = coded(*[stop] * 2000, votes=votes)
            other = coded(*[stop] * (2000 - 8 * hues), votes=votes)
            self.assertEqual(len(joined(one, other)[2]), 4000)
            self.assertRaises(TooLarge, joined, one, coded(*[stop] * (2001 - 8 * hues), votes=votes))
        one, other = coded(stop, bank=(0,) * 300), coded(stop, bank=(1,) * 300)
        self.assertEqual(joined(one, other)[3], (0,) * 300 + (1,) * 300)
        self.assertRaises(TooLarge, joined, one, coded(stop, bank=(1,) * 301))

    def test_wrong(self):
        for code in STRANGE + (list(CODE_30),):
            self.assertRaises(BadCode, joined, code, None)
        for other in STRANGE + (list(CODE_30), CODE_30[:3], coded(("stop",), votes=(1,)), coded(("stop",), size=11),
                                coded(("stop",), votes=(1, 2, 2)), FULL_CODE):
            self.assertRaises(BadOther, joined, CODE_30, other)
        self.assertRaises(BadOther, joined, coded(*[("stop",)] * 4000), coded(*[("stop",)] * 4000, size=11))

    def test_rows_and_papers(self):
        """If the first one is sure and stops, and the other one is sure, so is joined, with the rows of both."""
        rows = papers = 0
        for seed in range(500):
            maker = CodeMaker(seed, 14)
            code = maker.alike()
            other = CodeMaker(seed + 1000, 14).alike(code[0], marks=False)
            other = code[:2] + self.fitting(other, code[1])
            inputs = [seed, 3, 0, 7]
            both = joined(code, other)
            if isinstance(paper_of(code), dict) and isinstance(paper_of(other), dict):
                self.assertTrue(is_shown(both, made_paper(both)))
                papers += 1
            first = machine_of(code, inputs, 200)
            if first.state != "stopped" or first_parting(code, inputs, 200) is not None:
                continue
            if first_parting(other, first.left, 200) is None:
                second = machine_of(other, first.left, 200)
                steps = first.steps + 8 * len(code[0]) + second.steps
                self.assertIsNone(first_parting(both, inputs, steps))
                self.assertEqual(machine_row(both, inputs, steps), first.row[:-1] + second.row)
                rows += 1
        self.assertGreater(rows, 25)
        self.assertGreater(papers, 60)

    def fitting(self, code, size):
        """The cells and the bank of a code, with numbers below another size."""
        cells = [cell[:3] + (cell[3] % size,) if len(cell) == 4 and cell[1] == "set" else cell for cell in code[2]]
        return (tuple(cells), tuple([number % size for number in code[3]]))


class Schedules(unittest.TestCase):

    def test_doubts_are_the_same(self):
        """For each sequence of the instructions of unlike hues in a stretch."""
        changed = 0
        for at, code in enumerate(paper_codes(400) + program_codes()[::6]):
            chance = random.Random(at)
            other = exchanged_some(code, chance, 40)
            paper = paper_of(code)
            self.assertEqual(paper_of(other), paper)
            if isinstance(paper, dict):
                weak = {label: [kin for kin in table if chance.random() < 0.7] for label, table in paper.items()}
                self.assertEqual(doubts(code, weak), doubts(other, weak))
                changed += other != code
        self.assertGreater(changed, 60)


class Copying(unittest.TestCase):
    """The HEART of [44]: codes that copy alone."""

    def code(self, seed):
        """A copying code whose hues do much alike."""
        chance = random.Random(seed)
        votes = chance.choice(ALL_VOTES[:6])
        hues = len(votes)
        cells = []
        for _ in range(chance.randint(2, 14)):
            kind = chance.choice(("take", "take", "row", "row", "row", "row", "settle", "settle") * 2 + ("lone",))
            row = chance.choice((("set", chance.randrange(3), chance.randrange(3)),
                                 ("get", chance.randrange(3), chance.randrange(8), chance.randrange(3), 1),
                                 ("put", chance.randrange(3), chance.randrange(8), chance.randrange(3), 1),
                                 ("offer", chance.randrange(3))))
            if kind == "take":
                cells.append(("take", chance.randrange(3), hues if chance.random() < 0.9 else chance.randint(1, hues)))
            elif kind == "row":
                cells.extend(alike(row, hues=hues))
            elif kind == "lone":
                cells.append((chance.randrange(hues),) + row)
            elif chance.random() < 0.4:
                cells.append(("mark",))
            else:
                width = chance.randint(1, hues)
                spot = chance.randrange(3)
                offers = [(hue, "offer", spot) for hue in range(hues) if hue < width or chance.random() < 0.5]
                cells.extend(offers)
                if chance.random() < 0.1:
                    cells.append((chance.randrange(hues), "offer", chance.randrange(3)))
                cells.append(("show", 0, width))
        cells += [("stop",)] * chance.choice((0, 1, 1))
        return coded(*cells or [("stop",)], votes=votes, size=10000, bank=(1, 2, 1))

    def test_no_paper_exactly_if_some_run_parts(self):
        addresses = {}
        for seed in range(800):
            code = self.code(seed)
            # Inputs that are unlike one another and unlike all numbers of the code part all that can be parted.
            inputs = [100 + at for at in range(40)]
            step = first_parting(code, inputs, 5000)
            found = paper_of(code)
            if step is None:
                self.assertIsInstance(found, dict)
                for at in range(4):
                    chance = random.Random(at)
                    some = [chance.randrange(4) for _ in range(20)]
                    self.assertIsNone(first_parting(code, some, 5000))
            else:
                machine = Machine(code, inputs)
                machine.go(step)
                self.assertEqual(found, len(code[2]) if machine.address is None else machine.address)
            kind = "none" if step is None else "end" if machine.address is None else code[2][machine.address][0]
            addresses[kind] = addresses.get(kind, 0) + 1
        self.assertEqual(sorted(addresses), ["end", "mark", "none", "show"])
        self.assertGreater(min(addresses.values()), 15)


if __name__ == "__main__":
    unittest.main()
