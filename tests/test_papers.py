"""Papers, symbols, walks and doubts: [37] to [41]."""

import random
import unittest

from hueward.errors import BadCode, BadPaper, NoPaper
from hueward.machine import Machine, first_parting
from hueward.papermaking import made_paper
from hueward.papers import doubts, is_paper, is_shown, joints
from tests.coding import CODE_30, FULL_CODE, coded, some_codes
from tests.papering import CODE_44, PAPER_44, SHIFTING, holds_now, paper_codes, program_codes
from tests.plain_papers import plain_doubts, plain_joints
from tests.samples import STRANGE

BANKED = coded(("turn", 2, 2), ("stop",), ("goto", 0), bank=(7, 8, 9))
BOTH = ((0, 0), (1, 0))


def shown(*cells, **more):
    """Whether the made paper of a code shows it; the address where there is none."""
    code = coded(*cells, **more)
    try:
        paper = made_paper(code)
    except NoPaper as error:
        return error.address
    return is_shown(code, paper)


def alike(*cells, hues=2):
    """Instructions without hues, for each hue one behind another."""
    return [(hue,) + cell for cell in cells for hue in range(hues)]


def is_same(ahead, one, other, hues=2, bank=(1, 2, 3), size=10):
    """Whether two registers, one of each hue, are found to be equal behind these cells."""
    code = coded(*ahead, (0, "offer", one), (1, "offer", other), ("show", 0, hues), ("stop",), bank=bank, size=size)
    return doubts(code, {0: []}) == []


class Joints(unittest.TestCase):

    def test_each(self):
        self.assertEqual(joints(CODE_30), [0])
        self.assertEqual(joints(FULL_CODE), [0, 16, 19])
        self.assertEqual(joints(coded(("goto", 1), ("turn", 0, 2))), [0, 1])
        code = coded(("stop",), ("goto", 2), ("goto", 2), ("turn", 1, 1), ("show", 0, 1))
        self.assertEqual(joints(code), [0, 1, 2, 4])
        self.assertEqual(joints(coded(("show", 0, 1), ("take", 0, 1), ("mark",), ("stop",))), [0])

    def test_others(self):
        for code in some_codes(200):
            self.assertEqual(joints(code), sorted(plain_joints(code)))

    def test_wrong(self):
        for code in STRANGE + (list(CODE_30),):
            self.assertRaises(BadCode, joints, code)
            self.assertRaises(BadCode, is_paper, code, None)
            self.assertRaises(BadCode, doubts, code, None)
            self.assertRaises(BadCode, is_shown, code, None)


class Papers(unittest.TestCase):

    def table(self, *kins):
        """Whether this is a table."""
        return is_paper(BANKED, {0: list(kins)})

    def test_right(self):
        for paper in ({0: []}, {0: ()}, {0: [], 1: [], 2: []}, {2: [], 0: [(None, BOTH)]},
                      {0: [(7, ((1, 8),)), (None, ((1, 9), (1, 10)))]}):
            self.assertIs(is_paper(BANKED, paper), True)
            self.assertIsInstance(doubts(BANKED, paper), list)
        self.assertTrue(is_paper(CODE_44, PAPER_44))
        self.assertTrue(is_paper(CODE_44, {0: tuple(PAPER_44[0])}))

    def test_keys(self):
        self.assertFalse(is_paper(BANKED, {}))
        self.assertFalse(is_paper(BANKED, {1: []}))
        for key in (3, -1, None, "0", (0,), 10 ** 99):
            self.assertFalse(is_paper(BANKED, {0: [], key: []}), key)
        self.assertFalse(is_paper(BANKED, {False: []}))
        self.assertFalse(is_paper(BANKED, {0: [], True: []}))
        self.assertFalse(is_paper(CODE_30, {0: [], 1: []}))

    def test_no_dicts(self):
        for value in STRANGE + ([[]], [(0, [])], ((0, []),), PAPER_44[0]):
            self.assertFalse(is_paper(CODE_44, value), value)

    def test_tables(self):
        for value in (None, True, 0, "", "x", {}, {0: BOTH}, [None], [[]], [()], [((),)], [(None,)], [None, BOTH]):
            self.assertFalse(is_paper(BANKED, {0: value}), value)
            self.assertFalse(is_paper(BANKED, {0: [], 2: value}), value)

    def test_kins(self):
        self.assertTrue(self.table((None, BOTH)))
        for kin in ([None, BOTH], (None, list(BOTH)), (None, BOTH, 0), (BOTH, None), (None, None), (None, ()), (0, ()),
                    (None, ((0, 0),)), (None, ([0, 0], [1, 0])), (None, {(0, 0), (1, 0)}), None, ()):
            self.assertFalse(self.table(kin), kin)

    def test_numbers(self):
        for number in (0, 9):
            self.assertTrue(self.table((number, ((0, 0),))) and self.table((number, BOTH)))
        for number in (10, -1, True, False, "0", (0,), 10 ** 99):
            self.assertFalse(self.table((number, ((0, 0),))), number)

    def test_spots(self):
        for spot in ((0, 0), (0, 7), (0, 8), (0, 10), (1, 0), (1, 10)):
            self.assertTrue(self.table((3, (spot,))), spot)
        for spot in ((0, 11), (0, -1), (-1, 0), (2, 0), (True, 0), (0, True), (False, 0), (0, False), (0,), (0, 0, 0),
                     [0, 0], (None, 0), (0, None), ("0", 0), 0, None, ()):
            self.assertFalse(self.table((3, (spot,))), spot)
        self.assertFalse(is_paper(CODE_30, {0: [(3, ((0, 8),))]}))

    def test_spots_ascend(self):
        self.assertTrue(self.table((3, ((0, 1), (0, 9), (1, 0), (1, 2)))))
        for spots in (((0, 1), (0, 0)), ((1, 0), (0, 1)), ((0, 1), (0, 1)), ((0, 1), (1, 3), (1, 3))):
            self.assertFalse(self.table((3, spots)), spots)
            self.assertFalse(self.table((None, spots)), spots)

    def test_kins_ascend(self):
        one, other = (None, ((0, 1), (1, 1))), (None, ((0, 2), (0, 3)))
        self.assertTrue(self.table(one, other))
        self.assertFalse(self.table(other, one))
        self.assertTrue(self.table((None, ((0, 0), (1, 7))), (3, ((0, 1),)), (4, ((1, 0),))))
        self.assertFalse(self.table((4, ((1, 0),)), (3, ((0, 1),))))

    def test_no_spot_is_in_two(self):
        self.assertFalse(self.table((None, ((0, 1), (1, 1))), (3, ((0, 1),))))
        self.assertFalse(self.table((None, ((0, 1), (1, 1))), (None, ((0, 2), (1, 1)))))
        self.assertTrue(self.table((None, ((0, 1), (1, 1))), (None, ((0, 2), (1, 2)))))

    def test_no_number_is_the_number_of_two(self):
        self.assertFalse(self.table((3, ((0, 1),)), (3, ((0, 2),))))
        self.assertTrue(self.table((3, ((0, 1),)), (4, ((0, 2),))))
        self.assertTrue(self.table((None, ((0, 1), (0, 2))), (None, ((0, 3), (0, 4)))))

    def test_wrong(self):
        for bad in STRANGE + ({0: None}, {1: []}, {False: []}, {0: [(3, ((0, 11),))]}, [[]]):
            self.assertRaises(BadPaper, doubts, BANKED, bad)
            self.assertRaises(BadPaper, is_shown, BANKED, bad)


class Symbols(unittest.TestCase):
    """Each rule of symbols, where the registers 0 and 1 of both hues are taken and nothing else is known."""

    TAKEN = [("take", 0, 2), ("take", 1, 2)]

    def same(self, one, other, bank=(1, 2, 3)):
        """Whether the register 5 of hue 0 behind some instructions equals that of hue 1 behind others."""
        cells = [(0,) + cell for cell in one] + [(1,) + cell for cell in other]
        return is_same(self.TAKEN + cells, 5, 5, bank=bank)

    def check_all(self, same, pairs):
        for one, other in pairs:
            self.assertEqual(self.same(one, other), same, (one, other))
            self.assertEqual(self.same(other, one), same, (one, other))

    def test_letters(self):
        self.assertTrue(is_same(self.TAKEN, 0, 0))
        self.assertTrue(is_same(self.TAKEN, 1, 1))
        self.assertFalse(is_same(self.TAKEN, 0, 1))
        self.assertFalse(is_same([("take", 0, 2), ("take", 0, 1)], 0, 0))
        self.assertFalse(is_same(self.TAKEN, 2, 2))
        self.assertFalse(is_same([("take", 0, 1), ("take", 1, 2), ("take", 2, 2)], 0, 1))

    def test_numbers(self):
        cases = {"plus": 0, "minus": 4, "times": 1, "rest": 1, "less": 0, "same": 0}
        for word, value in cases.items():
            one = [("set", 2, 7), ("set", 3, 3), (word, 5, 2, 3)]
            for other in range(10):
                self.assertEqual(self.same(one, [("set", 5, other)]), other == value, word)
        self.assertTrue(self.same([("set", 2, 7), ("set", 3, 0), ("rest", 5, 2, 3)], [("set", 5, 0)]))
        self.assertTrue(self.same([("set", 2, 3), ("set", 3, 7), ("less", 5, 2, 3)], [("set", 5, 1)]))

    def test_a_number_is_no_letter(self):
        self.check_all(False, [([("set", 5, 0)], [("plus", 5, 0, 1)]), ([("set", 5, 1)], [("same", 5, 0, 0)]),
                               ([("set", 5, 0)], [("less", 5, 0, 0)]), ([("set", 5, 0)], [("minus", 5, 0, 0)])])

    def test_sums_with_0(self):
        zero = ("set", 2, 0)
        self.check_all(True, [
            ([zero, ("plus", 5, 0, 2)], [zero, ("plus", 5, 2, 0)]),
            ([zero, ("plus", 5, 0, 2)], [zero, ("minus", 5, 0, 2)]),
            ([zero, ("plus", 5, 0, 2), ("times", 5, 5, 1)], [("times", 5, 0, 1)]),
        ])
        self.check_all(False, [
            ([zero, ("plus", 5, 0, 2)], [zero, ("minus", 5, 2, 0)]),
            ([zero, ("times", 5, 0, 2)], [("set", 5, 0)]),
            ([zero, ("rest", 5, 2, 0)], [("set", 5, 0)]),
            ([zero, ("same", 5, 0, 2)], [zero, ("less", 5, 0, 2)]),
            ([("set", 2, 1), ("times", 5, 0, 2)], [zero, ("plus", 5, 0, 2)]),
        ])

    def test_the_sequence_of_operands(self):
        for word in ("plus", "times", "same"):
            self.check_all(True, [([(word, 5, 0, 1)], [(word, 5, 1, 0)]), ([(word, 5, 0, 1)], [(word, 5, 0, 1)])])
            self.check_all(True, [([("set", 2, 4), (word, 5, 2, 1)], [("set", 3, 4), (word, 5, 1, 3)])])
        for word in ("minus", "rest", "less"):
            self.check_all(False, [([(word, 5, 0, 1)], [(word, 5, 1, 0)])])
            self.check_all(True, [([(word, 5, 0, 1)], [(word, 5, 0, 1)])])

    def test_made_symbols(self):
        words = ("plus", "minus", "times", "rest", "less", "same")
        for word in words:
            for other in words:
                self.check_all(word == other, [([(word, 5, 0, 1)], [(other, 5, 0, 1)])])
            self.check_all(False, [([(word, 5, 0, 1)], [(word, 5, 0, 0)]), ([(word, 5, 0, 1)], [(word, 5, 1, 1)])])
        self.check_all(True, [([("plus", 3, 0, 1), ("minus", 5, 3, 0)], [("plus", 4, 1, 0), ("minus", 5, 4, 0)])])
        self.check_all(False, [
            ([("plus", 3, 0, 1), ("plus", 5, 3, 0)], [("plus", 3, 0, 0), ("plus", 5, 3, 1)]),
            ([("plus", 3, 0, 1), ("minus", 5, 3, 0)], [("plus", 5, 1, 1), ("minus", 5, 5, 1)]),
        ])

    def test_known_cells(self):
        index = [("set", 2, 4)]
        taken = [("set", 7, 0), ("plus", 5, 0, 7)]
        self.check_all(True, [
            (index + [("put", 0, 2, 0, 3), ("get", 5, 2, 1, 1)], taken),
            (index + [("put", 0, 1, 1, 1), ("get", 5, 2, 0, 3)], taken),
            ([("put", 0, 1, 2, 1), ("get", 5, 0, 2, 1)], taken),
        ])
        self.check_all(False, [
            (index + [("put", 0, 2, 0, 3), ("get", 5, 2, 0, 1)], taken),
            (index + [("put", 0, 2, 0, 3), ("get", 5, 2, 2, 1)], taken),
            (index + [("put", 0, 1, 1, 1), ("get", 5, 2, 0, 2)], taken),
        ])

    def test_a_letter_is_no_known_index(self):
        """Also that of the first register, of which nothing else is known."""
        for base, length in ((0, 3), (0, 2), (1, 2)):
            for number in (4, 5, 6):
                get = self.filled(4, 5, 6) + [("get", 5, 0, base, length)]
                cells = [(0,) + cell for cell in get] + [(1, "set", 5, number)]
                self.assertFalse(is_same(cells, 5, 5))
                for at in range(base, base + length):
                    put = self.filled(4, 5, 6) + [("put", 6, 0, base, length), ("get", 5, 0, at, 1)]
                    cells = [(0,) + cell for cell in put] + [(1, "set", 5, number)]
                    self.assertFalse(is_same(cells, 5, 5))

    def filled(self, *values):
        """Instructions that put these numbers into the bank."""
        found = []
        for at, value in enumerate(values):
            found += [("set", 6, value), ("put", 6, 6, at, 1)]
        return found

    def test_picks(self):
        bank = self.filled(4, 5, 6)
        self.check_all(True, [
            (bank + [("get", 5, 0, 0, 3)], bank + [("get", 5, 0, 0, 3)]),
            (bank + [("get", 5, 0, 0, 2)], self.filled(1, 4, 5) + [("get", 5, 0, 1, 2)]),
        ])
        self.check_all(False, [
            (bank + [("get", 5, 0, 0, 3)], bank + [("get", 5, 1, 0, 3)]),
            (bank + [("get", 5, 0, 0, 3)], bank + [("get", 5, 0, 0, 2)]),
            (bank + [("get", 5, 0, 0, 2)], bank + [("get", 5, 0, 1, 2)]),
            (bank + [("get", 5, 0, 0, 3)], self.filled(4, 5, 7) + [("get", 5, 0, 0, 3)]),
            (bank + [("get", 5, 0, 0, 3)], self.filled(5, 4, 6) + [("get", 5, 0, 0, 3)]),
            (self.filled(4, 4, 4) + [("get", 5, 0, 0, 3)], [("set", 5, 4)]),
        ])

    def test_mixes(self):
        bank = self.filled(4, 5, 6)
        put = bank + [("put", 0, 1, 0, 3)]
        for at in range(3):
            self.check_all(True, [(put + [("get", 5, 0, at, 1)], put + [("get", 5, 0, at, 1)])])
            for other in range(3):
                self.check_all(at == other, [(put + [("get", 5, 0, at, 1)], put + [("get", 5, 0, other, 1)])])
            for changed in (
                bank + [("put", 1, 1, 0, 3)], bank + [("put", 0, 0, 0, 3)],
                self.filled(7, 7, 7) + [("put", 0, 1, 0, 3)], bank + [("put", 0, 1, 0, 3), ("put", 0, 1, 0, 3)],
            ):
                self.check_all(False, [(put + [("get", 5, 0, at, 1)], changed + [("get", 5, 0, at, 1)])])
        self.check_all(False, [(put + [("get", 5, 0, 0, 1)], bank + [("put", 0, 1, 0, 2), ("get", 5, 0, 0, 1)])])
        same = self.filled(4, 4, 4) + [("put", 0, 1, 0, 2)]
        moved = self.filled(4, 4, 4) + [("put", 0, 1, 1, 2)]
        self.check_all(True, [(same + [("get", 5, 0, 0, 1)], moved + [("get", 5, 0, 1, 1)]),
                              (same + [("get", 5, 0, 1, 1)], moved + [("get", 5, 0, 2, 1)]),
                              (same + [("get", 5, 0, 2, 1)], moved + [("get", 5, 0, 0, 1)])])
        self.check_all(False, [(same + [("get", 5, 0, 0, 1)], moved + [("get", 5, 0, 2, 1)])])


class Walks(unittest.TestCase):
    """Each kind of cell in the walk."""

    def test_widths(self):
        offers = alike(("offer", 0), hues=3)
        votes = (1, 2, 2)
        ahead = [(2, "set", 0, 1)]
        self.assertIs(shown(*ahead, *offers, ("show", 0, 2), ("stop",), votes=votes), True)
        self.assertEqual(shown(*ahead, *offers, ("show", 0, 3), ("stop",), votes=votes), 4)
        self.assertIs(shown(*offers[:2], ("show", 0, 2), ("stop",), votes=votes), True)
        self.assertEqual(shown(*offers[:2], ("show", 0, 3), ("stop",), votes=votes), 2)
        self.assertEqual(shown(*offers[:2], ("show", 0, 2), ("show", 0, 1), ("stop",), votes=votes), 3)

    def test_all_slots_become_blank(self):
        votes = (1, 2, 2)
        offers = alike(("offer", 0), hues=3)
        for cell in (("show", 0, 1), ("mark",), ("show", 0, 3)):
            for width in (1, 2, 3):
                self.assertEqual(shown(*offers, cell, ("show", 1, width), ("stop",), votes=votes), 4)
        self.assertEqual(shown(*offers, ("turn", 4, 1), ("show", 1, 1), ("stop",), votes=votes), 4)
        for cell in (("take", 5, 3), ("take", 5, 1)):
            self.assertIs(shown(*offers, cell, ("show", 1, 3), ("stop",), votes=votes), True)

    def test_slots_are_blank_at_joints(self):
        offers = alike(("offer", 0))
        self.assertEqual(shown(*offers, ("goto", 3), ("show", 0, 2), ("stop",)), 3)
        self.assertEqual(shown(("goto", 1), *offers, ("goto", 4), ("show", 0, 2), ("stop",)), 4)
        self.assertEqual(shown(("goto", 2), ("goto", 4), *offers, ("show", 0, 2), ("stop",)), 4)
        self.assertIs(shown(("goto", 2), ("goto", 2), *offers, ("show", 0, 2), ("stop",)), True)
        self.assertEqual(shown(*offers, ("show", 0, 2), *offers, ("turn", 2, 2), ("stop",)), 2)

    def test_take(self):
        for width, same in ((1, False), (2, True)):
            cells = [("take", 0, width), *alike(("offer", 0)), ("show", 0, 2), ("stop",)]
            self.assertEqual(shown(*cells), True if same else 3)

    def test_mark(self):
        self.assertIs(shown(("mark",), ("stop",)), True)
        self.assertIs(shown(("take", 0, 2), ("mark",), ("stop",)), True)
        self.assertEqual(shown(("take", 0, 1), ("mark",), ("stop",)), 1)
        self.assertEqual(shown((1, "set", 7, 3), ("mark",), ("stop",)), 1)
        self.assertEqual(shown((1, "set", 7, 3), (1, "put", 7, 7, 1, 1), (1, "set", 7, 0), ("mark",), ("stop",),
                               bank=(1, 2)), 3)
        self.assertEqual(shown((2, "set", 7, 3), ("mark",), ("stop",), votes=(1, 2, 2)), 1)
        self.assertIs(shown(*alike(("set", 7, 3), hues=3), ("mark",), ("stop",), votes=(1, 2, 2)), True)

    def test_turns_by_numbers(self):
        """A turn on a number goes one way alone."""
        for number, other in ((0, 5), (1, 6), (9, 6)):
            code = coded(*alike(("set", 0, number), ("offer", 0)), ("turn", 6, 2), ("stop",), ("stop",))
            self.assertEqual(list(made_paper(code)), [0, other])
        code = coded(("take", 0, 2), *alike(("offer", 0)), ("turn", 5, 2), ("stop",), ("stop",))
        self.assertEqual(list(made_paper(code)), [0, 4, 5])
        code = coded(("take", 0, 2), *alike(("offer", 0)), ("turn", 4, 2), ("stop",), ("stop",))
        self.assertEqual(list(made_paper(code)), [0, 4])

    def test_it_leaves_at_joints(self):
        code = coded((0, "set", 0, 1), (0, "set", 0, 2), ("turn", 1, 1), ("goto", 0))
        self.assertEqual(doubts(code, {0: []}), [(0, 1, "goal")])
        code = coded((0, "set", 0, 1), (0, "set", 0, 2), ("stop",), ("goto", 0))
        self.assertEqual(doubts(code, {0: []}), [])

    def test_stops_end_it(self):
        self.assertEqual(doubts(coded(("stop",), ("show", 0, 1)), {0: []}), [])


class Doubts(unittest.TestCase):

    def test_start(self):
        code = coded(("stop",), bank=(7, 8))
        for kin, right in (((0, ((0, 0), (1, 7))), True), ((7, ((0, 8), (1, 8))), True), ((8, ((1, 9),)), True),
                           ((None, ((0, 3), (1, 2))), True), ((1, ((0, 0),)), False), ((7, ((0, 8), (0, 9))), False),
                           ((None, ((0, 8), (1, 9))), False), ((0, ((0, 0), (1, 8))), False)):
            self.assertEqual(doubts(code, {0: [kin]}), [] if right else [(0, 0, "start")])
            self.assertIs(is_shown(code, {0: [kin]}), right)

    def test_slots(self):
        for cell in (("show", 3, 2), ("turn", 0, 2)):
            code = coded((0, "offer", 0), (1, "offer", 0), cell, ("stop",))
            self.assertEqual(doubts(code, {0: []})[:1], [(0, 2, "slots")])
            code = coded((0, "offer", 0), (1, "offer", 0), cell, ("stop",))
            self.assertNotIn((0, 2, "slots"), doubts(code, {0: [(None, BOTH)]}))

    def test_mark(self):
        code = coded(("take", 0, 1), ("mark",), ("show", 0, 1))
        self.assertEqual(doubts(code, {0: [(None, ((0, at), (1, at))) for at in range(8)]}), [(0, 1, "mark")])

    def test_goal(self):
        code = coded(("goto", 1), ("take", 0, 2), ("goto", 3), ("stop",))
        self.assertEqual(doubts(code, {0: []}), [(0, 0, "goal")])
        self.assertEqual(doubts(code, {0: [], 1: []}), [(1, 2, "goal")])
        self.assertEqual(doubts(code, {0: [], 3: []}), [(0, 0, "goal")])
        self.assertEqual(doubts(code, {0: [], 1: [], 3: []}), [])

    def test_goal_that_is_run_into(self):
        code = coded(("take", 0, 2), ("take", 1, 2), ("take", 2, 2), ("goto", 2))
        self.assertEqual(doubts(code, {0: []}), [(0, 2, "goal")])
        self.assertEqual(doubts(code, {0: [], 2: []}), [])

    def test_goal_behind_the_last_cell(self):
        self.assertEqual(doubts(coded(("take", 0, 2)), {0: []}), [(0, 1, "goal")])
        code = coded(("goto", 1), *alike(("set", 0, 0), ("offer", 0)), ("turn", 1, 2))
        self.assertEqual(doubts(code, {0: [], 1: []}), [(1, 5, "goal")])
        self.assertEqual(doubts(coded(*code[2], ("stop",)), {0: [], 1: []}), [(1, 5, "goal")])
        self.assertEqual(doubts(coded(*code[2], ("stop",)), {0: [], 1: [], 6: []}), [])

    def test_goals_are_looked_at_ascending(self):
        cells = [("take", 0, 2), *alike(("offer", 0)), ("turn", 0, 2), ("stop",)]
        code = coded(*cells)
        taken = [(None, BOTH)]
        self.assertEqual(doubts(code, {0: taken}), [(0, 3, "goal")])
        self.assertEqual(doubts(code, {0: [(0, ((0, 0),))]}), [(0, 3, "table")])
        self.assertEqual(doubts(code, {0: [(0, ((0, 0),))], 4: []}), [(0, 3, "table")])
        self.assertEqual(doubts(code, {0: taken, 4: []}), [])
        self.assertEqual(doubts(code, {0: taken, 4: [(1, ((0, 0),))]}), [(0, 3, "table")])
        forward = coded(*cells[:3], ("turn", 5, 2), ("stop",), ("stop",))
        self.assertEqual(doubts(forward, {0: [], 5: [(1, ((0, 0),))]}), [(0, 3, "goal")])
        self.assertEqual(doubts(forward, {0: [], 4: [(1, ((0, 0),))]}), [(0, 3, "table")])

    def test_table(self):
        code = coded(("take", 0, 2), (0, "set", 1, 4), ("goto", 3), ("stop",))
        for kins, right in (
            ([], True), ([(None, BOTH)], True), ([(4, ((0, 1),))], True), ([(5, ((0, 1),))], False),
            ([(4, ((0, 1), (1, 1)))], False), ([(None, ((0, 0), (1, 1)))], False), ([(0, BOTH)], False),
            ([(None, BOTH), (4, ((0, 1),)), (None, ((0, 2), (1, 2)))], False),
        ):
            self.assertEqual(doubts(code, {0: [], 3: kins}), [] if right else [(0, 2, "table")])
        self.assertEqual(doubts(code, {0: [(None, ((0, 2), (1, 2)))], 3: [(None, ((0, 2), (1, 2)))]}), [])

    def test_a_kin_stands_for_one_letter(self):
        code = coded(*alike(("offer", 0)), ("show", 0, 2), ("goto", 0))
        self.assertEqual(doubts(code, {0: [(None, BOTH)]}), [])
        self.assertEqual(doubts(code, {0: [(None, ((0, 0), (1, 1))), (None, ((0, 1), (1, 0)))]}), [(0, 2, "slots")])
        self.assertEqual(doubts(code, {0: [(0, BOTH)]}), [])

    def test_each_key_is_the_label_of_at_most_one(self):
        code = coded((0, "offer", 0), ("show", 0, 2), ("goto", 3), (1, "offer", 0), ("show", 0, 2), ("goto", 0))
        found = doubts(code, {3: [], 0: [(1, ((0, 0),))]})
        self.assertEqual(found, [(0, 0, "start"), (0, 1, "slots"), (3, 4, "slots")])

    def test_example(self):
        self.assertEqual(doubts(CODE_44, PAPER_44), [])
        self.assertIs(is_shown(CODE_44, PAPER_44), True)
        self.assertEqual(doubts(CODE_44, {0: []}), [])
        self.assertEqual(doubts(CODE_44, {0: [(None, ((0, 0), (1, 1)))]}), [(0, 8, "table")])

    def test_others(self):
        """Made papers, weakened and changed ones, and any tables, beside the plain doubts."""
        words = {}
        for at, code in enumerate(paper_codes(500)):
            if len(code[2]) > 60:
                continue
            chance = random.Random(at)
            for paper in self.papers_for(code, chance):
                self.assertTrue(is_paper(code, paper))
                found = doubts(code, paper)
                self.assertEqual(found, plain_doubts(code, paper))
                self.assertIs(is_shown(code, paper), found == [])
                for doubt in found or [(0, 0, "none")]:
                    words[doubt[2]] = words.get(doubt[2], 0) + 1
        self.assertEqual(sorted(words), ["goal", "mark", "none", "slots", "start", "table"])
        self.assertGreater(min(words.values()), 40)

    def papers_for(self, code, chance):
        """Some papers for a code, right and wrong ones."""
        try:
            found = [made_paper(code)]
        except NoPaper:
            found = [{label: [(None, ((0, at), (len(code[0]) - 1, at))) for at in range(8)] if len(code[0]) > 1 else []
                      for label in joints(code)}]
        paper = found[0]
        found.append({label: [kin for kin in table if chance.random() < 0.7] for label, table in paper.items()})
        found.append({label: table for label, table in paper.items() if label == 0 or chance.random() < 0.5})
        found.append({label: [] for label in joints(code)})
        number = chance.randrange(code[1])
        label = chance.choice(sorted(paper))
        spot = (chance.randrange(len(code[0])), chance.randrange(8))
        table = [kin for kin in paper[label] if spot not in kin[1] and kin[0] != number] + [(number, (spot,))]
        found.append(paper | {label: sorted(table, key=lambda kin: kin[1][0])})
        return found


class Heart(unittest.TestCase):

    def test_shown_codes_are_sure(self):
        """[41]: no parting with any inputs, and the tables hold whenever the run comes to a key."""
        seen = 0
        for at, code in enumerate(paper_codes(400) + program_codes()[::4]):
            try:
                paper = made_paper(code)
            except NoPaper:
                continue
            chance = random.Random(at)
            for _ in range(3):
                inputs = [chance.choice((0, 1, chance.randrange(10000))) for _ in range(6)]
                self.assertIsNone(first_parting(code, inputs, 300))
                machine = Machine(code, inputs)
                for _ in range(80):
                    if machine.address in paper:
                        self.assertTrue(holds_now(machine, paper[machine.address]))
                        seen += 1
                    machine.go(1)
        self.assertGreater(seen, 2000)

    def test_a_sure_code_without_a_paper(self):
        filled = coded(*alike(("offer", 0)), ("goto", 3), ("show", 0, 2), ("stop",))
        unlike = coded(("take", 0, 2), (0, "plus", 1, 0, 0), (1, "set", 2, 2), (1, "times", 1, 0, 2),
                       *alike(("offer", 1)), ("show", 0, 2), ("stop",))
        for code in (filled, unlike):
            for number in range(10):
                self.assertIsNone(first_parting(code, [number], 100))
            self.assertRaises(NoPaper, made_paper, code)

    def test_shifting(self):
        self.assertEqual(doubts(SHIFTING, made_paper(SHIFTING)), [])


if __name__ == "__main__":
    unittest.main()
