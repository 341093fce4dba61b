"""The texts of strikes: [76]."""

import unittest

from hueward.codes import is_strikes
from hueward.errors import BadCode, BadStrikes, BadStrikesText
from hueward.striketexts import strikes_of, strikes_text
from tests.coding import CODE_30, FULL_CODE, CodeMaker, coded
from tests.samples import STRANGE

# A strike at each place, with each kind of instruction.
EACH = [
    (0, 0, ("register", 7), 99), (0, 2, ("cell", 6), 0), (1, 1, ("pointer",), 9999), (3, 0, ("slot",), 5),
    (3, 1, ("slot",), None), (17, 1, ("code", 4), (1, "plus", 0, 1, 2)), (17, 0, ("code", 0), (0, "set", 3, 98)),
    (17, 2, ("code", 11), (2, "get", 1, 2, 3, 4)), (18, 2, ("code", 5), (2, "put", 1, 2, 0, 7)),
    (1000000, 0, ("code", 12), (0, "offer", 7)),
]
EACH_TEXT = "\n".join([
    "0 0 register 7 99", "0 2 cell 6 0", "1 1 pointer 9999", "3 0 slot 5", "3 1 slot -", "17 1 code 4 plus 0 1 2",
    "17 0 code 0 set 3 98", "17 2 code 11 get 1 2 3 4", "18 2 code 5 put 1 2 0 7", "1000000 0 code 12 offer 7",
])


def wrong_line(code, text):
    """The line that is told to be wrong."""
    try:
        strikes_of(code, text)
    except BadStrikesText as caught:
        return caught.line
    return "none"


class Texts(unittest.TestCase):

    def test_each_place(self):
        self.assertEqual(strikes_text(FULL_CODE, EACH), EACH_TEXT)
        self.assertEqual(strikes_text(FULL_CODE, tuple(EACH)), EACH_TEXT)
        self.assertEqual(strikes_of(FULL_CODE, EACH_TEXT), EACH)

    def test_the_words(self):
        cells = [(1, "set", 0, 1)] * 20
        code = coded(*cells)
        self.assertEqual(strikes_text(code, [(3, 1, ("code", 17), (1, "plus", 0, 1, 2))]), "3 1 code 17 plus 0 1 2")
        for word in ("plus", "minus", "times", "rest", "less", "same"):
            strikes = [(3, 1, ("code", 17), (1, word, 0, 1, 2))]
            self.assertEqual(strikes_of(code, strikes_text(code, strikes)), strikes)

    def test_the_empty_list(self):
        self.assertEqual(strikes_text(FULL_CODE, []), "")
        self.assertEqual(strikes_of(FULL_CODE, ""), [])

    def test_there_and_back(self):
        for seed in range(300):
            maker = CodeMaker(seed)
            code = maker.code()
            strikes = maker.strikes(code, maker.chance.randrange(12), 1000000)
            self.assertEqual(strikes_of(code, strikes_text(code, strikes)), strikes)

    def test_four_hundred_lines(self):
        strikes = [(1, 1, ("slot",), None)] * 400
        text = strikes_text(CODE_30, strikes)
        self.assertEqual(strikes_of(CODE_30, text), strikes)
        self.assertEqual(wrong_line(CODE_30, text + "\n1 1 slot -"), 400)
        self.assertEqual(wrong_line(CODE_30, text + "\nx\ny"), 400)
        self.assertEqual(wrong_line(CODE_30, "x\n" + text), 0)

    def test_errors_from_left_to_right(self):
        for bad in STRANGE:
            self.assertRaises(BadCode, strikes_text, bad, None)
            self.assertRaises(BadCode, strikes_of, bad, None)
        for bad, at in ((None, None), ([EACH[0], None], 1), ([EACH[2], EACH[0]], 1), ([EACH[0]] * 401, None)):
            with self.assertRaises(BadStrikes) as caught:
                strikes_text(FULL_CODE, bad)
            self.assertEqual(caught.exception.at, at)

    def test_what_is_no_string(self):
        for bad in STRANGE:
            if not isinstance(bad, str):
                self.assertIsNone(wrong_line(FULL_CODE, bad))


class Wrong(unittest.TestCase):

    def test_single_lines(self):
        for line in (
            "0 0 register 8 1", "0 0 register 0 100", "0 3 register 0 1", "0 0 cell 7 1", "0 0 pointer 10000",
            "0 0 slot 100", "0 0 slot none", "0 0 slot", "0 0 slot 1 1", "0 0 pointer", "0 0 pointer -",
            "0 0 register 1 -", "0 0 register 1", "0 0 register 1 2 3", "0 0", "0", "x", "1000001 0 slot 1",
            "0 0 code 0", "0 0 code 0 set", "0 0 code 0 set 1", "0 0 code 0 set 1 100", "0 0 code 0 set 8 1",
            "0 0 code 1 set 1 1", "0 1 code 0 set 1 1", "0 0 code 14 set 1 1", "0 0 code 99 set 1 1",
            "0 0 code 0 0 set 1 1", "0 0 code 0 move 1 1", "0 0 code 0 plus 0 1", "0 0 code 0 plus 0 1 2 3",
            "0 0 code 0 get 0 1 0 8", "0 0 code 0 get 0 1 7 1", "0 0 code 0 get 0 1 0", "0 0 code 0 offer",
            "0 0 code 0 offer 0 0", "0 0 code 0 stop", "0 0 code - offer 0", "0 0 code 0 offer -",
            "00 0 slot 1", "0 00 slot 1", "0 0 slot 01", "0 0 slot +1", "0 0 slot -1", "-1 0 slot 1", "0 0 register 07 1",
            " 0 0 slot 1", "0 0 slot 1 ", "0  0 slot 1", "0 0 slot  1", "0\t0 slot 1", "0 0 slot 1\r", "0 0 Slot 1",
            "0 0 slots 1", "0 0 slot 1_0", "0 0 slot 1.0", " ", "- 0 slot 1", "0 - slot 1", "0 0 code 0 set 1 \u0661",
            "0 0 slot " + "9" * 5000, "9" * 31 + " 0 slot 1", "0 0 code " + "9" * 6000 + " offer 0",
        ):
            self.assertEqual(wrong_line(FULL_CODE, line), 0, line)
            self.assertEqual(wrong_line(FULL_CODE, "0 0 slot 1\n" + line), 1, line)
            self.assertEqual(wrong_line(FULL_CODE, line + "\n0 0 slot 1"), 0, line)

    def test_empty_lines(self):
        for text, line in (
            ("\n", 0), ("\n0 0 slot 1", 0), ("0 0 slot 1\n", 1), ("0 0 slot 1\n\n0 0 slot 1", 1), ("\n\n", 0),
        ):
            self.assertEqual(wrong_line(FULL_CODE, text), line)

    def test_descending_steps(self):
        self.assertEqual(wrong_line(FULL_CODE, "3 0 slot 1\n3 0 slot 1\n2 0 slot 1\n1 0 slot 1"), 2)
        self.assertEqual(wrong_line(FULL_CODE, "10 0 slot 1\n9 0 slot 1"), 1)

    def test_the_first_wrong_line(self):
        self.assertEqual(wrong_line(FULL_CODE, EACH_TEXT.replace("slot -", "slot x")), 4)
        self.assertEqual(wrong_line(FULL_CODE, EACH_TEXT.replace("cell", "Cell").replace("slot -", "x")), 1)

    def test_words_exchanged_left_out_and_put_in(self):
        """Beside the only texts that there are: those of strikes."""
        seen = 0
        for seed in range(600):
            maker = CodeMaker(seed)
            chance = maker.chance
            code = maker.code()
            strikes = maker.strikes(code, 5, 50)
            lines = strikes_text(code, strikes).split("\n")
            at = chance.randrange(len(lines))
            words = lines[at].split(" ")
            spot = chance.randrange(len(words))
            kind = seed % 4
            new = chance.choice(words + ["0", "7", "register", "cell", "slot", "-", "code", "9999", "01", ""])
            words[spot:spot + (kind != 1)] = [] if kind == 0 else [new]
            lines[at] = " ".join(words)
            line = wrong_line(code, "\n".join(lines))
            if line == "none":
                self.assertEqual(strikes_text(code, strikes_of(code, "\n".join(lines))), "\n".join(lines))
                continue
            seen += 1
            self.assertLessEqual(at, line)
            # The line is right as soon as those ahead of it, and it, are a text.
            self.assertEqual(wrong_line(code, "\n".join(lines[:line + 1])), line)
            if line > 0:
                right = strikes_of(code, "\n".join(lines[:line]))
                self.assertTrue(is_strikes(code, right))
        self.assertGreater(seen, 300)


if __name__ == "__main__":
    unittest.main()
