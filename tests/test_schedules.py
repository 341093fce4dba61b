"""Schedules: [72], [73], [75]."""

import itertools
import math
import unittest

from hueward.compiling import compiled
from hueward.errors import BadAddress, BadCode, BadRank, NoPaper, NotSchedule
from hueward.machine import Machine
from hueward.papermaking import made_paper
from hueward.papers import doubts
from hueward.schedules import exchangeable, exchanged, exchanges_to, in_order, is_schedule, labels_of, moved_address
from hueward.schedules import nearest_exchanges, schedule_at, schedule_rank, schedules_many, stretches
from tests.coding import CODE_30, FULL_CODE, CodeMaker, coded, some_codes
from tests.compiling import HAND_MADE, is_instruction_cell, made
from tests.papering import paper_codes
from tests.samples import STRANGE

# Stretches amid which goals lie, one ahead of a settle, one behind a label without one, one at the end.
CODE = coded(
    (0, "set", 0, 1), (1, "set", 0, 1), (0, "set", 1, 2), ("goto", 6), (1, "set", 1, 2), (0, "set", 2, 3),
    (1, "set", 2, 3), (0, "offer", 0), (1, "offer", 0), ("turn", 5, 2), ("take", 0, 2), (1, "set", 3, 4),
    (0, "set", 3, 4), (0, "set", 4, 5),
)
# The example of [73].
CODE_73 = coded((0, "set", 0, 1), (0, "set", 0, 2), (1, "set", 0, 1), ("stop",))


def plain_labels(code):
    """The labels, by [72]."""
    found = {0}
    for at, cell in enumerate(code[2]):
        if not is_instruction_cell(cell):
            found.add(at + 1)
        if cell[0] in ("goto", "turn"):
            found.add(cell[1])
    return sorted([at for at in found if at < len(code[2])])


def plain_stretches(code):
    """The stretches, by [72]."""
    labels = plain_labels(code)
    found = []
    for label in labels:
        end = label
        while end < len(code[2]) and is_instruction_cell(code[2][end]) and (end == label or end not in labels):
            end += 1
        if end > label:
            found.append((label, end))
    return found


def neighbours(code):
    """The schedules that one exchange makes, by their addresses."""
    found = {}
    for first, end in plain_stretches(code):
        for at in range(first, end - 1):
            cells = list(code[2])
            if cells[at][0] != cells[at + 1][0]:
                cells[at:at + 2] = cells[at + 1], cells[at]
                found[at] = code[:2] + (tuple(cells),) + code[3:]
    return found


def all_schedules(code, most=500):
    """All schedules, with how many exchanges each is away; None if there are more."""
    found = {code: 0}
    waiting = [code]
    for one in waiting:
        for other in neighbours(one).values():
            if other not in found:
                found[other] = found[one] + 1
                waiting.append(other)
        if len(found) > most:
            return None
    return found


def hues_key(code):
    """By what schedules are compared."""
    return [cell[0] for cell in code[2] if is_instruction_cell(cell)]


def small_codes(many):
    """Codes with few enough schedules, and these."""
    found = []
    for seed in range(many):
        maker = CodeMaker(seed, 9)
        code = maker.code() if seed % 2 else maker.alike()
        schedules = all_schedules(code)
        if schedules is not None:
            found.append((code, schedules))
    return found


class Stretches(unittest.TestCase):

    def test_by_hand(self):
        self.assertEqual(labels_of(CODE), [0, 4, 5, 6, 10, 11])
        self.assertEqual(stretches(CODE), [(0, 3), (4, 5), (5, 6), (6, 9), (11, 14)])
        self.assertEqual(exchangeable(CODE), [0, 1, 6, 7, 11])
        self.assertEqual((labels_of(CODE_73), stretches(CODE_73)), ([0], [(0, 3)]))
        self.assertEqual(exchangeable(CODE_73), [1])
        only = coded(("stop",), votes=(1,))
        self.assertEqual((labels_of(only), stretches(only), exchangeable(only)), ([0], [], []))

    def test_random_codes(self):
        for code in some_codes(300) + [FULL_CODE, CODE_30]:
            self.assertEqual(labels_of(code), plain_labels(code))
            self.assertEqual(stretches(code), plain_stretches(code))
            self.assertEqual(exchangeable(code), sorted(neighbours(code)))
            inside = [at for first, end in stretches(code) for at in range(first, end)]
            self.assertEqual(inside, [at for at, cell in enumerate(code[2]) if is_instruction_cell(cell)])

    def test_errors(self):
        for function in (labels_of, stretches, exchangeable, in_order, schedules_many, schedule_rank):
            for bad in STRANGE:
                self.assertRaises(BadCode, function, bad)


class Exchanges(unittest.TestCase):

    def test_there_and_back(self):
        for code in some_codes(200):
            others = neighbours(code)
            for at in exchangeable(code):
                other = exchanged(code, at)
                self.assertEqual(other, others[at])
                self.assertEqual(exchanged(other, at), code)
                self.assertTrue(is_schedule(code, other))
                self.assertEqual(in_order(other), in_order(code))

    def test_bad_addresses(self):
        for bad in STRANGE + (2, 3, 4, 5, 8, 9, 10, 12, 13, 14, 99):
            if bad.__class__ is not int or bad not in (0, 1):
                self.assertRaises(BadAddress, exchanged, CODE, bad)
        self.assertRaises(BadAddress, exchanged, CODE, True)
        for bad in STRANGE:
            self.assertRaises(BadCode, exchanged, bad, None)

    def test_in_order(self):
        self.assertEqual([cell[0] for cell in in_order(CODE)[2]],
                         [0, 0, 1, "goto", 1, 0, 0, 1, 1, "turn", "take", 0, 0, 1])
        self.assertEqual(in_order(CODE_73), CODE_73)
        for code, schedules in small_codes(120):
            first = min(schedules, key=hues_key)
            self.assertEqual(in_order(code), first)
            self.assertEqual(in_order(first), first)

    def test_is_schedule(self):
        for code, schedules in small_codes(60):
            for other in list(schedules)[:20]:
                self.assertIs(is_schedule(code, other), True)
        cells = list(CODE_73[2])
        for wrong in (
            list(CODE_73), (CODE_73[0], 10, cells, ()), (CODE_73[0], 11) + CODE_73[2:], CODE_73[:3] + ((1,),),
            ((1, 2, 2),) + CODE_73[1:], CODE_73[:2] + ((cells[1], cells[0], cells[2], cells[3]),) + CODE_73[3:],
            CODE_73[:2] + (tuple(cells[:3]),) + CODE_73[3:], CODE_73[:2] + (tuple(cells) + (("stop",),),) + CODE_73[3:],
            CODE_73[:2] + (((False, "set", 0, 1), cells[1], cells[2], cells[3]),) + CODE_73[3:],
            CODE_73[:2] + (((0, "set", 0, True), cells[1], cells[2], cells[3]),) + CODE_73[3:],
            CODE_73[:2] + (([0, "set", 0, 1], cells[1], cells[2], cells[3]),) + CODE_73[3:],
        ):
            self.assertIs(is_schedule(CODE_73, wrong), False)
        for wrong in STRANGE + (Machine(CODE_30, []),):
            self.assertIs(is_schedule(CODE_73, wrong), False)
            self.assertRaises(BadCode, is_schedule, wrong, None)
        # Across a label nothing is exchanged.
        over = coded((0, "set", 0, 1), (1, "set", 0, 1), ("goto", 1))
        other = coded((1, "set", 0, 1), (0, "set", 0, 1), ("goto", 1))
        self.assertFalse(is_schedule(over, other))


class Ranks(unittest.TestCase):

    def test_the_example(self):
        self.assertEqual(schedules_many(CODE_73), 3)
        self.assertEqual([schedule_rank(schedule_at(CODE_73, rank)) for rank in range(3)], [0, 1, 2])
        self.assertEqual([cell[0] for cell in schedule_at(CODE_73, 1)[2]], [0, 1, 0, "stop"])

    def test_beside_all_schedules(self):
        seen = 0
        for code, schedules in small_codes(150):
            listed = sorted(schedules, key=hues_key)
            self.assertEqual(schedules_many(code), len(listed))
            self.assertEqual(schedule_rank(code), listed.index(code))
            self.assertEqual([schedule_at(code, rank) for rank in range(len(listed))], listed)
            self.assertEqual([schedule_rank(other) for other in listed], list(range(len(listed))))
            seen += len(listed) > 5
        self.assertGreater(seen, 20)

    def test_long_codes(self):
        for at, program in enumerate(HAND_MADE[:12]):
            code = made(program, ((1, 2), (1, 2, 2), (1, 2, 3, 4))[at % 3])
            if code is None:
                continue
            chance = CodeMaker(at).chance
            many = schedules_many(code)
            self.assertGreater(many, 10 ** 9)
            self.assertEqual(schedule_rank(in_order(code)), 0)
            for rank in (0, 1, many // 2, many - 1, chance.randrange(many), chance.randrange(many)):
                other = schedule_at(code, rank)
                self.assertTrue(is_schedule(code, other))
                self.assertEqual(schedule_rank(other), rank)
                self.assertEqual(schedules_many(other), many)
            self.assertRaises(BadRank, schedule_at, code, many)

    def test_one_very_long_stretch(self):
        cells = [(at * at % 5, "set", 0, at % 10) for at in range(3999)] + [("stop",)]
        code = coded(*cells, votes=(1, 2, 2, 3, 3))
        counts = [len([cell for cell in cells if cell[0] == hue]) for hue in range(5)]
        many = math.factorial(3999)
        for count in counts:
            many //= math.factorial(count)
        self.assertTrue(schedules_many(code) == many)
        rank = schedule_rank(code)
        self.assertTrue(schedule_at(code, rank) == code)
        self.assertTrue(schedule_rank(schedule_at(code, many - 1)) == many - 1)

    def test_errors_from_left_to_right(self):
        for bad in STRANGE:
            self.assertRaises(BadCode, schedule_at, bad, None)
        for bad in STRANGE + (3, 10 ** 99):
            if bad.__class__ is not int or not 0 <= bad <= 2:
                self.assertRaises(BadRank, schedule_at, CODE_73, bad)
        self.assertRaises(BadRank, schedule_at, CODE_73, True)

    def test_runs_beside_one_another(self):
        for seed in range(200):
            maker = CodeMaker(seed)
            code = maker.alike() if seed % 2 else maker.code()
            other = schedule_at(code, maker.chance.randrange(schedules_many(code)))
            inputs = maker.inputs()
            one, two = Machine(code, inputs), Machine(other, inputs)
            labels = labels_of(code)
            for _ in range(60):
                self.assertEqual((one.row, one.state, one.steps, one.address), (two.row, two.state, two.steps, two.address))
                if one.address in labels or one.address is not None and not is_instruction_cell(code[2][one.address]):
                    self.assertEqual([hue[:4] for hue in one.moment()[0]], [hue[:4] for hue in two.moment()[0]])
                one.go(1)
                two.go(1)


class Nearest(unittest.TestCase):

    def test_beside_a_search(self):
        seen = 0
        for code, schedules in small_codes(120):
            chance = CodeMaker(len(schedules)).chance
            for other in chance.sample(sorted(schedules, key=hues_key), min(20, len(schedules))):
                self.check(code, other, schedules[other])
                seen += schedules[other] > 3
        self.assertGreater(seen, 50)

    def check(self, code, other, many):
        self.assertEqual(nearest_exchanges(code, other), many)
        self.assertEqual(nearest_exchanges(other, code), many)
        found = exchanges_to(code, other)
        self.assertIsInstance(found, list)
        self.assertEqual(len(found), many)
        now = code
        for at in found:
            now = exchanged(now, at)
        self.assertEqual(now, other)

    def test_long_codes(self):
        for at, program in enumerate(HAND_MADE[:6]):
            code = compiled(program, (1, 2))
            chance = CodeMaker(at).chance
            one, other = [schedule_at(code, chance.randrange(schedules_many(code))) for _ in range(2)]
            self.assertEqual(len(exchanges_to(one, other)), nearest_exchanges(one, other))
            many = 0
            for first, end in stretches(one):
                spots = [(moved_address(one, other, spot), one[2][spot][0]) for spot in range(first, end)]
                for low, high in itertools.combinations(spots, 2):
                    many += low[0] > high[0] and low[1] != high[1]
            self.assertEqual(nearest_exchanges(one, other), many)

    def test_a_long_stretch_turned_round(self):
        cells = [(hue, "set", 0, 1) for hue in range(3) for _ in range(100)]
        one, other = coded(*cells, votes=(1, 2, 2)), coded(*cells[::-1], votes=(1, 2, 2))
        self.assertEqual(nearest_exchanges(one, other), 30000)
        self.assertEqual(len(exchanges_to(one, other)), 30000)
        self.assertEqual((nearest_exchanges(one, one), exchanges_to(one, one)), (0, []))

    def test_errors_from_left_to_right(self):
        other = coded((0, "set", 0, 1), (0, "set", 0, 2), (1, "set", 0, 2), ("stop",))
        for function in (nearest_exchanges, exchanges_to):
            for bad in STRANGE:
                self.assertRaises(BadCode, function, bad, None)
                self.assertRaises(NotSchedule, function, CODE_73, bad)
            self.assertRaises(NotSchedule, function, CODE_73, other)
            self.assertRaises(NotSchedule, function, CODE_73, list(CODE_73))

    def test_papers_go_along(self):
        shown = 0
        for code in paper_codes(300):
            chance = CodeMaker(len(code[2])).chance
            other = schedule_at(code, chance.randrange(schedules_many(code)))
            try:
                paper = made_paper(code)
            except NoPaper as wrong:
                with self.assertRaises(NoPaper) as caught:
                    made_paper(other)
                self.assertEqual(caught.exception.address, wrong.address)
                continue
            shown += code != other
            self.assertEqual(made_paper(other), paper)
            less = {label: table[:-1] for label, table in paper.items()}
            self.assertEqual(doubts(code, less), doubts(other, less))
        self.assertGreater(shown, 20)


if __name__ == "__main__":
    unittest.main()
