"""Lists of strikes: [23], and [10] as far as it names them."""

import unittest

from hueward.codes import is_strikes
from hueward.errors import BadCode, BadStrikes
from hueward.machine import Machine, machine_row, strikes_renumbered, struck
from tests.coding import CODE_30, FULL_CODE, CodeMaker, coded
from tests.samples import STRANGE, WORDS

WRONG_WHOLES = (-1, True, False, None, "0", (0,), [0], {}, 10 ** 99)
POINTER = (0, 0, ("pointer",), 0)


def fits(*strikes, code=FULL_CODE):
    """Whether these are strikes for the code."""
    return is_strikes(code, list(strikes))


def wrong_at(strikes, code=FULL_CODE):
    """The field of the error that tells that these are no strikes; "none" if they are."""
    try:
        Machine(code, [], strikes)
    except BadStrikes as error:
        return error.at
    return "none"


class Items(unittest.TestCase):

    def test_steps(self):
        for step in (0, 1, 1000000):
            self.assertTrue(fits((step, 0, ("pointer",), 0)))
        for step in (1000001,) + WRONG_WHOLES:
            self.assertFalse(fits((step, 0, ("pointer",), 0)), step)

    def test_hues(self):
        for hue in (0, 1, 2):
            self.assertTrue(fits((0, hue, ("pointer",), 0)))
        for hue in (3,) + WRONG_WHOLES:
            self.assertFalse(fits((0, hue, ("pointer",), 0)), hue)

    def test_registers(self):
        for at in range(8):
            self.assertTrue(fits((0, 1, ("register", at), 99)))
        for at in (8,) + WRONG_WHOLES:
            self.assertFalse(fits((0, 1, ("register", at), 99)), at)
        self.assertTrue(fits((0, 1, ("register", 0), 0)))
        for new in (100,) + WRONG_WHOLES:
            self.assertFalse(fits((0, 1, ("register", 0), new)), new)

    def test_cells(self):
        for at in range(7):
            self.assertTrue(fits((0, 2, ("cell", at), 99)))
        for at in (7,) + WRONG_WHOLES:
            self.assertFalse(fits((0, 2, ("cell", at), 99)), at)
        for new in (100,) + WRONG_WHOLES:
            self.assertFalse(fits((0, 2, ("cell", 0), new)), new)
        self.assertFalse(fits((0, 1, ("cell", 0), 0), code=CODE_30))

    def test_pointers(self):
        for new in (0, 20, 100, 9999):
            self.assertTrue(fits((0, 2, ("pointer",), new)))
        for new in (10000,) + WRONG_WHOLES:
            self.assertFalse(fits((0, 2, ("pointer",), new)), new)

    def test_slots(self):
        for new in (None, 0, 99):
            self.assertTrue(fits((0, 0, ("slot",), new)))
        for new in (100, -1, True, False, "0", (0,), [0], {}):
            self.assertFalse(fits((0, 0, ("slot",), new)), new)

    def test_codes(self):
        for hue in range(3):
            for at, cell in enumerate(FULL_CODE[2]):
                self.assertEqual(fits((0, hue, ("code", at), (hue, "set", 0, 0))), cell[0] == hue)
        for at in (20,) + WRONG_WHOLES:
            self.assertFalse(fits((0, 2, ("code", at), (2, "set", 0, 0))), at)
            self.assertFalse(fits((0, 0, ("code", at), (0, "set", 0, 0))), at)

    def test_instructions(self):
        for word in WORDS:
            self.assertTrue(fits((0, 0, ("code", 0), (0, word, 7, 7, 7))))
        self.assertTrue(fits((0, 0, ("code", 0), (0, "get", 0, 0, 6, 1))))
        self.assertTrue(fits((0, 0, ("code", 0), (0, "put", 0, 0, 0, 7))))
        self.assertTrue(fits((0, 0, ("code", 0), (0, "offer", 0))))
        for new in ((1, "set", 0, 0), (0, "set", 8, 0), (0, "set", 0, 100), (0, "get", 0, 0, 6, 2), ("stop",),
                    ("goto", 0), (False, "set", 0, 0), [0, "set", 0, 0], (0, "none"), (0, "set", 0, True)) + STRANGE:
            self.assertFalse(fits((0, 0, ("code", 0), new)), new)

    def test_places(self):
        for place in STRANGE + (("register",), ("cell",), ("code",), ("pointer", 0), ("slot", 0), ("slot", None),
                                ["register", 0], ["slot"], "slot", "pointer", (0, "register"), ("register", 0, 0),
                                ("none",), ("none", 0), (("register",), 0), (None, 0), ("SLOT",)):
            self.assertFalse(fits((0, 0, place, 0)), place)

    def test_shapes(self):
        for item in STRANGE + (POINTER[:3], POINTER + (0,), list(POINTER), (POINTER,)):
            self.assertFalse(fits(item), item)


class Lists(unittest.TestCase):

    def test_lists_and_tuples(self):
        for strikes in ([], (), [POINTER], (POINTER,), [POINTER] * 400, (POINTER,) * 400):
            self.assertIs(is_strikes(FULL_CODE, strikes), True)

    def test_too_many(self):
        self.assertIs(is_strikes(FULL_CODE, [POINTER] * 401), False)
        self.assertFalse(is_strikes(FULL_CODE, (POINTER,) * 401))

    def test_no_lists(self):
        for value in (None, True, 0, 1, "", "x", {}, {0: POINTER}, {POINTER: 0}):
            self.assertFalse(is_strikes(FULL_CODE, value), value)

    def test_steps_do_not_descend(self):
        self.assertTrue(fits((0, 0, ("slot",), 1), (0, 0, ("slot",), 2), (3, 1, ("slot",), 1), (3, 0, ("slot",), 1)))
        self.assertFalse(fits((3, 0, ("slot",), 1), (2, 0, ("slot",), 2)))
        self.assertFalse(fits((1, 0, ("slot",), 1), (2, 0, ("slot",), 2), (1, 0, ("slot",), 2)))

    def test_wrong_codes(self):
        for code in STRANGE + (list(CODE_30),):
            self.assertRaises(BadCode, is_strikes, code, [])

    def test_made_ones(self):
        for seed in range(200):
            maker = CodeMaker(seed)
            code = maker.code()
            self.assertTrue(is_strikes(code, maker.strikes(code, 20, 30)))


class Errors(unittest.TestCase):

    def test_none(self):
        for value in (None, True, 0, 1, "", "x", {}, {0: POINTER}, [POINTER] * 401, [None] * 401):
            self.assertIsNone(wrong_at(value), value)

    def test_first_wrong_one(self):
        self.assertEqual(wrong_at([POINTER] * 400), "none")
        self.assertEqual(wrong_at([POINTER] * 399 + [None]), 399)
        self.assertEqual(wrong_at([None]), 0)
        self.assertEqual(wrong_at((POINTER, (0, 3, ("slot",), 0), None)), 1)
        self.assertEqual(wrong_at([(5, 0, ("slot",), 0), (5, 0, ("slot",), 0), (4, 0, ("slot",), 0), None]), 2)
        self.assertEqual(wrong_at([(5, 0, ("slot",), 0), (4, 0, ("slot",), 0), (3, 0, ("slot",), 0)]), 1)

    def test_they_hang_on_the_code(self):
        strike = (0, 2, ("cell", 6), 99)
        self.assertEqual(wrong_at([strike]), "none")
        self.assertEqual(wrong_at([strike], CODE_30), 0)
        self.assertEqual(wrong_at([(0, 1, ("register", 7), 10)], CODE_30), 0)
        self.assertEqual(wrong_at([(0, 0, ("code", 1), (0, "set", 0, 1))], CODE_30), 0)

    def test_all_functions(self):
        code = coded(("stop",))
        for call in (
            lambda bad: Machine(code, [], bad),
            lambda bad: struck(code, [], bad, 0),
            lambda bad: machine_row(code, [], 0, bad),
            lambda bad: strikes_renumbered(code, bad, (0, 1)),
        ):
            for bad, at in ((None, None), ([(0, 2, ("slot",), 0)], 0), ([POINTER, (0, 1, ("slot",), 10)], 1)):
                with self.assertRaises(BadStrikes) as caught:
                    call(bad)
                self.assertEqual(caught.exception.at, at)


if __name__ == "__main__":
    unittest.main()
