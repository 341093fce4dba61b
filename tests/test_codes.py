"""Votes, codes, instructions and settles: [9], [22]."""

import itertools
import unittest

from hueward.codes import hues_of, instructions, is_code, is_instruction, is_votes, settles
from hueward.errors import BadCode, BadHue
from tests.coding import ALL_VOTES, CODE_30, FULL_CODE, coded, some_codes, with_cell
from tests.samples import STRANGE, WORDS

WRONG_WHOLES = (-1, True, False, None, "0", (0,), [0], {}, 10 ** 99)


def fits(cell, **more):
    """Whether there is a code with this cell, ahead of a stop."""
    return is_code(coded(cell, ("stop",), **more))


class Votes(unittest.TestCase):

    def test_all_there_are(self):
        found = []
        for hues in range(0, 7):
            found.extend([votes for votes in itertools.product(range(-1, 7), repeat=hues) if is_votes(votes)])
        self.assertEqual(sorted(found), sorted(ALL_VOTES))

    def test_rule(self):
        for votes in ALL_VOTES:
            for width in range(1, len(votes) + 1):
                self.assertTrue(width < 2 * votes[width - 1] and votes[width - 1] <= width)
        self.assertFalse(is_votes((1, 1)))
        self.assertFalse(is_votes((1, 2, 1)))
        self.assertFalse(is_votes((1, 2, 2, 2)))
        self.assertFalse(is_votes((1, 3)))
        self.assertFalse(is_votes((0,)))
        self.assertFalse(is_votes((1, 2, 2, 3, 3, 4)))
        self.assertFalse(is_votes(()))

    def test_others(self):
        for value in STRANGE + ([1], [1, 2], (True,), (1, True), (1, [2]), (1, None), (1, "2"), ((1, 2),), {1: 2},
                                "12", 1):
            self.assertFalse(is_votes(value), value)


class Codes(unittest.TestCase):

    def test_samples(self):
        for code in [CODE_30, FULL_CODE] + some_codes(200):
            self.assertTrue(is_code(code))

    def test_others(self):
        for value in STRANGE + (list(CODE_30), CODE_30[:3], CODE_30 + ((),), (CODE_30,), None):
            self.assertFalse(is_code(value), value)

    def test_lists_do_not_stand_for_tuples(self):
        for at in (0, 2, 3):
            value = CODE_30[:at] + (list(CODE_30[at]),) + CODE_30[at + 1:]
            self.assertFalse(is_code(value))
        for at, cell in enumerate(FULL_CODE[2]):
            self.assertFalse(is_code(with_cell(FULL_CODE, at, list(cell))))
            for k in range(len(cell)):
                self.assertFalse(is_code(with_cell(FULL_CODE, at, cell[:k] + ([cell[k]],) + cell[k + 1:])))

    def test_true_and_false_are_no_wholes(self):
        for at, cell in enumerate(FULL_CODE[2]):
            for k, item in enumerate(cell):
                if not isinstance(item, str):
                    for other in (True, False, None):
                        self.assertFalse(is_code(with_cell(FULL_CODE, at, cell[:k] + (other,) + cell[k + 1:])))
        self.assertFalse(is_code(coded(("stop",), votes=(True,))))
        self.assertFalse(is_code(coded(("stop",), bank=(True,))))
        self.assertFalse(is_code(coded(("stop",), size=True)))

    def test_lengths_of_cells(self):
        for at, cell in enumerate(FULL_CODE[2]):
            self.assertTrue(is_code(with_cell(FULL_CODE, at, cell)))
            self.assertFalse(is_code(with_cell(FULL_CODE, at, cell[:-1])), cell)
            self.assertFalse(is_code(with_cell(FULL_CODE, at, cell + (0,))), cell)
            self.assertFalse(is_code(with_cell(FULL_CODE, at, cell + (1,))), cell)

    def test_size(self):
        for size in (2, 3, 9999, 10000):
            self.assertTrue(is_code(coded(("stop",), size=size)))
        for size in (0, 1, 10001) + WRONG_WHOLES:
            self.assertFalse(is_code(coded(("stop",), size=size)), size)

    def test_votes(self):
        for votes in ALL_VOTES:
            self.assertTrue(is_code(coded(("stop",), votes=votes)))
        for votes in ((), (1, 1), (2,), [1], (1, 2, 2, 3, 3, 4), None, 1):
            self.assertFalse(is_code(coded(("stop",), votes=votes)), votes)

    def test_bank(self):
        for bank in ((), (0,), (9,), (0,) * 600):
            self.assertTrue(is_code(CODE_30[:3] + (bank,)))
        for bank in ((10,), (-1,), (0,) * 601, (None,), ("0",), ((0,),), [], [0], {}, "", None, 0):
            self.assertFalse(is_code(CODE_30[:3] + (bank,)), bank)

    def test_count_of_cells(self):
        self.assertTrue(is_code(coded(*[("stop",)] * 4000)))
        self.assertFalse(is_code(coded(*[("stop",)] * 4001)))
        self.assertFalse(is_code(coded()))
        for cells in (None, "", (), [("stop",)], {}, {0: ("stop",)}, ("stop",), 1):
            self.assertFalse(is_code(((1,), 10, cells, ())), cells)

    def test_strange_cells(self):
        for cell in STRANGE + (("none",), (0, "none"), (0,), (0, "stop"), ("stop", 0), ("set", 0, 0), (0, 1), (0, None),
                               ("STOP",), ("stop ",), ("",), (0, ""), (0, ("set",), 0, 0), (("stop",),), ((0,),)):
            self.assertFalse(fits(cell), cell)


class Instructions(unittest.TestCase):

    def test_hues(self):
        for votes in ALL_VOTES:
            for hue in range(len(votes)):
                self.assertTrue(fits((hue, "offer", 0), votes=votes))
            self.assertFalse(fits((len(votes), "offer", 0), votes=votes))
        for hue in WRONG_WHOLES + (2,):
            self.assertFalse(fits((hue, "offer", 0)))

    def test_registers(self):
        shapes = [lambda b: (0, "set", b, 0), lambda b: (1, "offer", b)]
        for word in WORDS:
            shapes.append(lambda b, word=word: (0, word, b, 0, 0))
            shapes.append(lambda b, word=word: (1, word, 0, b, 0))
            shapes.append(lambda b, word=word: (0, word, 0, 0, b))
        for word in ("get", "put"):
            shapes.append(lambda b, word=word: (0, word, b, 0, 0, 1))
            shapes.append(lambda b, word=word: (1, word, 0, b, 0, 1))
        for shape in shapes:
            for good in range(8):
                self.assertTrue(fits(shape(good), bank=(0,)), shape(good))
            for bad in (8,) + WRONG_WHOLES:
                self.assertFalse(fits(shape(bad), bank=(0,)), shape(bad))

    def test_numbers(self):
        for good in (0, 5, 9):
            self.assertTrue(fits((0, "set", 0, good)))
        for bad in (10,) + WRONG_WHOLES:
            self.assertFalse(fits((0, "set", 0, bad)))
        self.assertTrue(fits((0, "set", 0, 9999), size=10000))

    def test_bases_and_lengths(self):
        for word in ("get", "put"):
            for many in (0, 1, 3):
                for base in range(-1, 5):
                    for length in range(-1, 5):
                        right = base >= 0 and length >= 1 and base + length <= many
                        self.assertEqual(fits((0, word, 0, 0, base, length), bank=(0,) * many), right)
            self.assertTrue(fits((0, word, 0, 0, 0, 600), bank=(0,) * 600))
            self.assertTrue(fits((0, word, 0, 0, 599, 1), bank=(0,) * 600))
            self.assertFalse(fits((0, word, 0, 0, 1, 600), bank=(0,) * 600))
            for bad in WRONG_WHOLES:
                self.assertFalse(fits((0, word, 0, 0, bad, 1), bank=(0,) * 3), bad)
                self.assertFalse(fits((0, word, 0, 0, 0, bad), bank=(0,) * 3), bad)

    def test_is_instruction(self):
        for hue in range(3):
            for cell in FULL_CODE[2]:
                self.assertIs(is_instruction(FULL_CODE, hue, cell), cell[0] == hue)
            self.assertTrue(is_instruction(FULL_CODE, hue, (hue, "get", 0, 0, 6, 1)))
            self.assertFalse(is_instruction(FULL_CODE, hue, (hue, "get", 0, 0, 6, 2)))
            self.assertTrue(is_instruction(FULL_CODE, hue, (hue, "set", 7, 99)))
            self.assertFalse(is_instruction(FULL_CODE, hue, (hue, "set", 7, 100)))
            self.assertFalse(is_instruction(FULL_CODE, hue, [hue, "set", 7, 99]))
            for value in STRANGE:
                self.assertFalse(is_instruction(FULL_CODE, hue, value))
        self.assertFalse(is_instruction(FULL_CODE, 1, (True, "set", 7, 99)))
        self.assertFalse(is_instruction(CODE_30, 0, (0, "get", 0, 0, 0, 1)))

    def test_is_instruction_wrong(self):
        for code in STRANGE + (list(CODE_30),):
            self.assertRaises(BadCode, is_instruction, code, 7, None)
        for hue in (2,) + WRONG_WHOLES:
            self.assertRaises(BadHue, is_instruction, CODE_30, hue, None)
        self.assertRaises(BadHue, is_instruction, FULL_CODE, 3, (3, "set", 0, 0))


class Settles(unittest.TestCase):

    def test_ports(self):
        for port in range(6):
            self.assertTrue(fits(("show", port, 1)))
        for port in (6,) + WRONG_WHOLES:
            self.assertFalse(fits(("show", port, 1)))

    def test_widths(self):
        for votes in ALL_VOTES:
            for width in range(-1, 7):
                right = 1 <= width <= len(votes)
                self.assertEqual(fits(("show", 0, width), votes=votes), right)
                self.assertEqual(fits(("turn", 0, width), votes=votes), right)
                self.assertEqual(fits(("take", 0, width), votes=votes), right)
        for width in WRONG_WHOLES:
            self.assertFalse(fits(("show", 0, width)))
            self.assertFalse(fits(("turn", 0, width)))
            self.assertFalse(fits(("take", 0, width)))

    def test_goals(self):
        for goal in (0, 1):
            self.assertTrue(fits(("goto", goal)) and fits(("turn", goal, 1)))
        for goal in (2, 3999) + WRONG_WHOLES:
            self.assertFalse(fits(("goto", goal)), goal)
            self.assertFalse(fits(("turn", goal, 1)), goal)
        self.assertTrue(is_code(coded(*[("goto", 3999)] * 4000)))

    def test_registers_of_takes(self):
        for spot in range(8):
            self.assertTrue(fits(("take", spot, 1)))
        for spot in (8,) + WRONG_WHOLES:
            self.assertFalse(fits(("take", spot, 1)))


class Looking(unittest.TestCase):

    def test_hues_of(self):
        self.assertEqual(hues_of(CODE_30), 2)
        self.assertEqual(hues_of(FULL_CODE), 3)
        for votes in ALL_VOTES:
            self.assertEqual(hues_of(coded(("stop",), votes=votes)), len(votes))

    def test_instructions(self):
        self.assertEqual(instructions(CODE_30, 0), [(0, (0, "set", 0, 7)), (2, (0, "offer", 0))])
        self.assertEqual(instructions(CODE_30, 1), [(1, (1, "set", 0, 7)), (3, (1, "offer", 0))])
        self.assertEqual(instructions(coded(("stop",)), 1), [])
        self.assertEqual([at for at, _ in instructions(FULL_CODE, 0)], [0, 3, 6, 9, 12])

    def test_settles(self):
        self.assertEqual(settles(CODE_30), [4, 5])
        self.assertEqual(settles(FULL_CODE), [14, 15, 16, 17, 18, 19])
        self.assertEqual(settles(coded((0, "offer", 1))), [])

    def test_each_cell_is_one_of_both(self):
        for code in some_codes(100):
            found = [(at, code[2][at]) for at in settles(code)]
            for hue in range(hues_of(code)):
                found.extend(instructions(code, hue))
            self.assertEqual(sorted(found, key=lambda pair: pair[0]), list(enumerate(code[2])))

    def test_wrong(self):
        for code in STRANGE + (list(CODE_30), CODE_30[:3]):
            self.assertRaises(BadCode, hues_of, code)
            self.assertRaises(BadCode, instructions, code, 7)
            self.assertRaises(BadCode, settles, code)
        for hue in (2,) + WRONG_WHOLES:
            self.assertRaises(BadHue, instructions, CODE_30, hue)


if __name__ == "__main__":
    unittest.main()
