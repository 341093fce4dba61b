"""Even codes, their longest legs, and where marks are put: [57] and [58]."""

import itertools
import unittest

from hueward.compiling import widened
from hueward.errors import BadCode, BadLabels, BadLength, NotEven, TooLarge, TooMany
from hueward.machine import Machine, first_parting
from hueward.markplaces import fewest_marks, is_even, longest_leg, with_marks
from hueward.marks import Kept
from tests.coding import ALL_VOTES, CODE_30, FULL_CODE, CodeMaker, coded, with_cell
from tests.compiling import HAND_MADE, blocks, made
from tests.samples import STRANGE

# The example at the end of [58].
CODE_58 = coded(("take", 0, 1), (0, "offer", 0), ("turn", 0, 1), ("stop",), votes=(1,))
EVEN = coded(
    ("take", 0, 2), (0, "set", 1, 3), (0, "offer", 1), (1, "set", 1, 3), (1, "offer", 1), ("show", 0, 2),
    (0, "plus", 1, 1, 1), (1, "plus", 1, 1, 1), ("mark",), (1, "offer", 0), (0, "offer", 0), ("turn", 6, 2),
    ("goto", 0),
)


def labels(code):
    """The beginnings of the blocks of a code."""
    return [first for first, _ in blocks(code)]


def behind(code, at):
    """The addresses that may come behind one."""
    cell = code[2][at]
    if cell[0] == "stop":
        return []
    if cell[0] == "goto":
        return [cell[1]]
    return [at + 1, cell[1]] if cell[0] == "turn" else [at + 1]


def plain_longest(code):
    """The longest leg, by all ways; None if one is longer than there are cells, since it comes round then."""
    seen, waiting = {0}, [0]
    while waiting:
        for at in behind(code, waiting.pop()):
            if at not in seen:
                seen.add(at)
                waiting.append(at)
    firsts = [0] + [at + 1 for at in seen if code[2][at] == ("mark",)]
    longest = 0
    known = {}

    def length(at, deep):
        if deep > len(code[2]):
            return None
        if at not in known:
            known[at] = length_of(at, deep)
        return known[at]

    def length_of(at, deep):
        if code[2][at][0] in ("mark", "stop"):
            return 1
        found = [length(other, deep + 1) for other in behind(code, at)]
        return None if None in found else 1 + max(found)

    for first in firsts:
        known.clear()
        found = length(first, 0)
        if found is None:
            return None
        longest = max(longest, found)
    return longest


def even_code(seed, most=12, votes=None):
    """An even code, made at random."""
    maker = CodeMaker(seed, most)
    one = maker.code((1,))
    cells, goals = [], {}
    for at, cell in enumerate(one[2]):
        goals[at] = len(cells)
        if isinstance(cell[0], int):
            cells.append((0, "set", 0, 1) if cell[1] == "offer" else cell)
            continue
        if cell[0] in ("show", "turn"):
            cells.append((0, "offer", maker.spot()))
        cells.append(cell)
    cells.append(maker.chance.choice((("stop",), ("goto", 0))))
    cells = [(cell[0], goals[cell[1]]) + cell[2:] if cell[0] in ("goto", "turn") else cell for cell in cells]
    return widened(((1,), one[1], tuple(cells), one[3]), votes or maker.chance.choice(ALL_VOTES))


class Even(unittest.TestCase):

    def test_even_ones(self):
        self.assertIs(is_even(EVEN), True)
        self.assertIs(is_even(CODE_58), True)
        for seed in range(200):
            code = even_code(seed)
            self.assertTrue(is_even(code))
            self.assertIsNone(first_parting(code, [3, 1, 4], 200))

    def test_compiled_ones(self):
        for at, program in enumerate(HAND_MADE):
            code = made(program, ALL_VOTES[at % len(ALL_VOTES)])
            if code is not None:
                self.assertTrue(is_even(code))

    def test_one_thing_changed(self):
        for at, cell in (
            (0, ("take", 0, 1)), (5, ("show", 0, 1)), (11, ("turn", 6, 1)),
            (1, (0, "set", 1, 4)), (3, (1, "set", 2, 3)), (4, (1, "offer", 2)), (6, (0, "plus", 1, 1, 2)),
            (6, (1, "plus", 1, 1, 1)), (7, ("goto", 8)), (2, (0, "set", 1, 3)),
            (5, ("goto", 6)), (8, ("show", 0, 2)), (12, ("mark",)), (12, ("take", 0, 2)), (12, (0, "set", 0, 0)),
            (12, ("turn", 0, 2)), (11, ("turn", 7, 2)), (11, ("turn", 2, 2)), (12, ("goto", 10)),
        ):
            self.assertIs(is_even(with_cell(EVEN, at, cell)), False, (at, cell))

    def test_what_may_be_changed(self):
        for at, cell in (
            (12, ("stop",)), (0, ("take", 1, 2)), (5, ("show", 5, 2)), (11, ("turn", 0, 2)), (11, ("turn", 9, 2)),
            (11, ("turn", 1, 2)), (8, ("take", 3, 2)), (8, ("stop",)), (12, ("goto", 6)),
        ):
            self.assertIs(is_even(with_cell(EVEN, at, cell)), True, (at, cell))
        self.assertTrue(is_even(EVEN[:1] + (9999,) + EVEN[2:]))

    def test_the_sequence_of_each_hue_counts(self):
        one = coded((0, "set", 0, 1), (0, "set", 1, 2), (1, "set", 0, 1), (1, "set", 1, 2), ("stop",))
        other = coded((0, "set", 0, 1), (0, "set", 1, 2), (1, "set", 1, 2), (1, "set", 0, 1), ("stop",))
        mixed = coded((1, "set", 0, 1), (0, "set", 0, 1), (0, "set", 1, 2), (1, "set", 1, 2), ("stop",))
        self.assertEqual([is_even(code) for code in (one, other, mixed)], [True, False, True])

    def test_offers(self):
        for cells, even in (
            ([(0, "offer", 0), ("show", 0, 1), ("stop",)], True),
            ([("show", 0, 1), ("stop",)], False),
            ([("turn", 0, 1), ("stop",)], False),
            ([(0, "offer", 0), ("stop",)], False),
            ([(0, "offer", 0), ("take", 0, 1), ("stop",)], False),
            ([(0, "offer", 0), ("goto", 0)], False),
            ([(0, "offer", 0), ("mark",), ("stop",)], False),
            ([(0, "offer", 0), (0, "offer", 1), (0, "set", 0, 0), ("show", 0, 1), ("stop",)], True),
            ([(0, "offer", 0), (0, "offer", 1), ("show", 0, 1), ("goto", 1)], False),
        ):
            self.assertIs(is_even(coded(*cells, votes=(1,))), even, cells)

    def test_others(self):
        self.assertFalse(is_even(FULL_CODE))
        self.assertTrue(is_even(CODE_30))
        for bad in STRANGE:
            self.assertRaises(BadCode, is_even, bad)


class Longest(unittest.TestCase):

    def test_the_example(self):
        self.assertIsNone(longest_leg(CODE_58))
        self.assertEqual(longest_leg(with_marks(CODE_58, [0])), 4)
        self.assertEqual(longest_leg(CODE_30), 6)

    def test_marks_in_loops(self):
        self.assertEqual(longest_leg(coded(("mark",), ("goto", 0), votes=(1,))), 2)
        self.assertEqual(longest_leg(coded(("goto", 1), ("mark",), ("goto", 0), votes=(1,))), 3)
        self.assertIsNone(longest_leg(coded(("mark",), ("goto", 1), votes=(1,))))
        self.assertIsNone(longest_leg(coded(("goto", 0), votes=(1,))))
        self.assertEqual(longest_leg(coded(("stop",), votes=(1,))), 1)

    def test_what_no_way_comes_to_counts_nothing(self):
        self.assertEqual(longest_leg(coded(("stop",), ("goto", 1), votes=(1,))), 1)
        self.assertEqual(longest_leg(coded(("goto", 3), (0, "set", 0, 1), ("mark",), ("stop",), votes=(1,))), 2)
        self.assertEqual(longest_leg(coded(("goto", 4), ("mark",), ("take", 0, 1), ("stop",), ("stop",), votes=(1,))), 2)

    def test_beside_all_ways(self):
        found = {}
        for seed in range(400):
            code = even_code(seed, 14)
            longest = longest_leg(code)
            self.assertEqual(longest, plain_longest(code))
            found[longest] = True
        self.assertGreater(len(found), 15)

    def test_no_leg_has_more_steps(self):
        for seed in range(200):
            code = even_code(seed)
            longest = longest_leg(code)
            if longest is not None:
                maker = CodeMaker(seed)
                kept = Kept(code, [1, 2, 3])
                hues = range(code[0][-1] - 1)
                if len(hues):
                    kept = Kept(code, [1, 2, 3], maker.strikes(code, 10, 60, hues))
                kept.go(200)
                self.assertLessEqual(max([leg[0] for leg in kept.legs], default=0), longest)

    def test_errors(self):
        for bad in STRANGE:
            self.assertRaises(BadCode, longest_leg, bad)
        self.assertRaises(NotEven, longest_leg, FULL_CODE)


class Marked(unittest.TestCase):

    def test_goals(self):
        found = with_marks(EVEN, [0, 6, 12])
        self.assertEqual(found, EVEN[:2] + ((
            ("mark",),) + EVEN[2][:6] + (("mark",),) + EVEN[2][6:11] + (("turn", 7, 2), ("mark",), ("goto", 0),),
        ) + EVEN[3:])
        found = with_marks(EVEN, [1, 9])
        self.assertEqual(found[2][12:], ((0, "offer", 0), ("turn", 7, 2), ("goto", 0)))

    def test_no_marks(self):
        self.assertEqual(with_marks(EVEN, []), EVEN)
        self.assertEqual(with_marks(EVEN, ()), EVEN)

    def test_lists_and_tuples(self):
        self.assertEqual(with_marks(EVEN, (0, 6)), with_marks(EVEN, [0, 6]))

    def test_same_row_and_even(self):
        for seed in range(200):
            maker = CodeMaker(seed)
            code = even_code(seed)
            some = [label for label in labels(code) if maker.chance.random() < 0.5]
            found = with_marks(code, some)
            self.assertTrue(is_even(found))
            self.assertEqual(len(found[2]), len(code[2]) + len(some))
            one, other = Machine(code, [3, 1, 4]), Machine(found, [3, 1, 4])
            one.go(50)
            other.go(1000)
            self.assertEqual(one.row, other.row[:len(one.row)])
            if one.state == "stopped":
                self.assertEqual((other.state, other.row), ("stopped", one.row))
            for hue in range(len(code[0])):
                if one.state == "stopped":
                    self.assertEqual(one.registers(hue), other.registers(hue))

    def test_bad_labels(self):
        for bad in STRANGE + ([2], [0, 0], [6, 0], [13], [12, 13], [-1], [True], [0, None], {0: True}, ["0"], [[0]]):
            if bad != () and bad != []:
                self.assertRaises(BadLabels, with_marks, EVEN, bad)

    def test_too_large(self):
        rows = [("take", 0, 1)] * 3990 + [("stop",)]
        code = coded(*rows, votes=(1,))
        self.assertEqual(len(with_marks(code, list(range(9)))[2]), 4000)
        self.assertRaises(TooLarge, with_marks, code, list(range(10)))
        self.assertRaises(BadLabels, with_marks, code, list(range(10)) + [9])

    def test_errors_from_left_to_right(self):
        for bad in STRANGE:
            self.assertRaises(BadCode, with_marks, bad, None)
        self.assertRaises(NotEven, with_marks, FULL_CODE, None)


class Fewest(unittest.TestCase):

    def plain(self, code, length):
        """How many marks the shortest list has, by all lists."""
        some = labels(code)
        for many in range(len(some) + 1):
            for chosen in itertools.combinations(some, many):
                longest = plain_longest(with_marks(code, list(chosen)))
                if longest is not None and longest <= length:
                    return many
        return None

    def check(self, code, length):
        found = fewest_marks(code, length)
        many = self.plain(code, length)
        if many is None:
            self.assertIsNone(found)
            return None
        self.assertEqual(len(found), many)
        self.assertIsInstance(found, list)
        self.assertLessEqual(plain_longest(with_marks(code, found)), length)
        return many

    def test_the_example(self):
        self.assertEqual(fewest_marks(CODE_58, 3), [0, 1])
        self.assertIsNone(fewest_marks(CODE_58, 2))
        self.assertEqual(fewest_marks(CODE_58, 4), [0])

    def test_beside_all_lists(self):
        seen = {}
        for seed in range(250):
            code = even_code(seed, 9, (1,) if seed % 2 else None)
            if len(labels(code)) <= 9:
                for length in (1, 2, 3, 4, 6, 10, 1000000):
                    many = self.check(code, length)
                    seen[many] = seen.get(many, 0) + 1
        self.assertGreater(min([seen[many] for many in (None, 0, 1, 2, 3, 4)]), 5, seen)

    def test_how_many_steps_there_are_at_most(self):
        for seed in range(200):
            code = even_code(seed, 10)
            hues, need = len(code[0]), code[0][-1]
            each = hues - need + 1
            if len(labels(code)) > 20 or each >= need:
                continue
            for length in (5, 9, 20):
                some = fewest_marks(code, length)
                if some is None:
                    continue
                marked = with_marks(code, some)
                one = Kept(marked, [2, 1])
                one.go(300)
                strikes = CodeMaker(seed).strikes(marked, 6, 60, [0])
                other = Kept(marked, [2, 1], strikes)
                other.go(2000)
                if one.state == "stopped" and need > 1:
                    self.assertLessEqual(other.steps, one.steps + 6 // each * length)
                    self.assertEqual(other.out, one.out)

    def test_twenty_labels_and_one_more(self):
        for many, error in ((19, None), (20, TooMany), (40, TooMany)):
            code = coded(*[("take", 0, 1)] * many, ("stop",), votes=(1,))
            self.assertEqual(len(labels(code)), many + 1)
            if error:
                self.assertRaises(error, fewest_marks, code, 5)
            else:
                found = fewest_marks(code, 5)
                # Each leg of five has four other cells and its mark.
                self.assertEqual(len(found), 4)
                self.assertEqual(longest_leg(with_marks(code, found)), 5)

    def test_a_hard_one(self):
        """Twenty labels with turns to and fro."""
        cells = []
        for at in range(9):
            cells += [(0, "offer", 0), ("turn", 2 * (at * 5 % 9), 1)]
        code = coded(*cells, ("stop",), votes=(1,))
        for length in (3, 4, 5, 7, 9):
            found = fewest_marks(code, length)
            if found is not None:
                self.assertLessEqual(longest_leg(with_marks(code, found)), length)
                self.assertEqual(len(found), self.plain(code, length))

    def test_errors_in_their_sequence(self):
        for bad in STRANGE:
            self.assertRaises(BadCode, fewest_marks, bad, None)
        self.assertRaises(NotEven, fewest_marks, FULL_CODE, None)
        many = coded(*[("take", 0, 1)] * 3999, ("stop",), votes=(1,))
        for bad in (None, 0, -1, True, 1000001, "1", [1]):
            self.assertRaises(BadLength, fewest_marks, CODE_58, bad)
            self.assertRaises(BadLength, fewest_marks, many, bad)
        self.assertRaises(TooMany, fewest_marks, many, 1)
        long = coded(*[(0, "set", 0, 1)] * 3998, ("goto", 0), ("stop",), votes=(1,))
        self.assertEqual(len(labels(long)), 2)
        self.assertRaises(TooLarge, fewest_marks, long, 1)
        self.assertRaises(BadLength, fewest_marks, long, 0)
        short = coded(*[(0, "set", 0, 1)] * 3996, ("goto", 0), ("stop",), votes=(1,))
        self.assertIsNone(fewest_marks(short, 1))
        self.assertEqual(fewest_marks(short, 1000000), [0])


if __name__ == "__main__":
    unittest.main()
