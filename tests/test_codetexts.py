"""The texts of codes: [24], [25]."""

import unittest

from hueward.codes import is_code
from hueward.codetexts import code_of, code_text
from hueward.errors import BadCode, BadCodeText
from tests.coding import ALL_VOTES, CODE_30, FULL_CODE, FULL_CODE_TEXT, coded, some_codes
from tests.samples import STRANGE, lines

HEAD = ("votes 1 2 2", "size 10", "bank 0 1 2")


def wrong_line(*rows):
    """The field of the error that code_of raises for these lines; "none" if it raises none."""
    try:
        code_of(lines(*rows))
    except BadCodeText as error:
        return error.line
    return "none"


class Writing(unittest.TestCase):

    def test_each_line(self):
        self.assertEqual(code_text(FULL_CODE), FULL_CODE_TEXT)
        self.assertEqual(code_text(CODE_30), lines("votes 1 2", "size 10", "bank", "0 set 0 7", "1 set 0 7",
                                                   "0 offer 0", "1 offer 0", "show 1 2", "stop"))

    def test_great_numbers(self):
        code = coded((0, "set", 0, 9999), votes=(1,), size=10000, bank=(1000, 0, 9999))
        self.assertEqual(code_text(code), "votes 1\nsize 10000\nbank 1000 0 9999\n0 set 0 9999")

    def test_wrong(self):
        for code in STRANGE + (list(CODE_30), CODE_30[:3]):
            self.assertRaises(BadCode, code_text, code)


class Reading(unittest.TestCase):

    def test_each_line(self):
        self.assertEqual(code_of(FULL_CODE_TEXT), FULL_CODE)

    def test_there_and_back(self):
        for code in some_codes(300) + [coded(("stop",), votes=votes) for votes in ALL_VOTES]:
            self.assertEqual(code_of(code_text(code)), code)

    def test_largest(self):
        cells = [(0, "put", 7, 7, 0, 600)] * 3999 + [("goto", 3999)]
        code = coded(*cells, votes=(1,), size=10000, bank=(9999,) * 600)
        self.assertTrue(is_code(code))
        self.assertEqual(code_of(code_text(code)), code)

    def test_empty_lines_and_remarks(self):
        rows = FULL_CODE_TEXT.split("\n")
        spaced = ["", "#", "# votes 1"]
        for row in rows:
            spaced.extend([row, "", "#none", "# " + row])
        self.assertEqual(code_of(lines(*spaced)), FULL_CODE)
        self.assertEqual(code_of("\n\n" + FULL_CODE_TEXT + "\n"), FULL_CODE)

    def test_goals_ahead(self):
        self.assertEqual(code_of(lines(*HEAD, "goto 1", "turn 0 3"))[2], (("goto", 1), ("turn", 0, 3)))


class Wrong(unittest.TestCase):

    def test_no_strings(self):
        for value in STRANGE + ([FULL_CODE_TEXT], FULL_CODE):
            if not isinstance(value, str):
                with self.assertRaises(BadCodeText) as caught:
                    code_of(value)
                self.assertIsNone(caught.exception.line)

    def test_ends_ahead_of_the_first_cell(self):
        self.assertEqual(wrong_line(""), 1)
        self.assertEqual(wrong_line("", ""), 2)
        self.assertEqual(wrong_line("#"), 1)
        self.assertEqual(wrong_line("votes 1"), 1)
        self.assertEqual(wrong_line("votes 1", "size 2"), 2)
        self.assertEqual(wrong_line("votes 1", "size 2", "bank"), 3)
        self.assertEqual(wrong_line("votes 1", "", "size 2", "#", "bank 1 0", "", ""), 7)
        self.assertEqual(wrong_line("votes 1", "size 2", "bank", "stop"), "none")

    def test_votes(self):
        for row in ("votes", "votes 2", "votes 0", "votes 1 1", "votes 1 2 2 3 3 4", "votes  1", "votes 1 ", " votes 1",
                    "votes 01", "votes 1,2", "votes -1", "votes one", "vote 1", "size 10", "Votes 1", "votes\t1",
                    "votes 1 #", "1", "stop"):
            self.assertEqual(wrong_line(row, "size 10", "bank", "stop"), 0, row)
            self.assertEqual(wrong_line("", "# x", row), 2, row)

    def test_size(self):
        for row in ("size", "size 1", "size 0", "size 10001", "size 010", "size 10 10", "size  10", " size 10",
                    "size 10 ", "size x", "bank", "votes 1", "size -2", "size 2.0", "size " + "9" * 6000, "10", "stop"):
            self.assertEqual(wrong_line("votes 1", row, "bank", "stop"), 1, row)
        for row in ("size 2", "size 10000"):
            self.assertEqual(wrong_line("votes 1", row, "bank", "stop"), "none")

    def test_bank(self):
        for row in ("bank 10", "bank -1", "bank 01", "bank ", "bank  1", "bank 1 ", " bank", "bank x", "banks", "stop",
                    "bank" + " 0" * 601, "bank " + "9" * 6000, "size 10", "0"):
            self.assertEqual(wrong_line("votes 1", "size 10", row, "stop"), 2, row)
        for row in ("bank", "bank 0", "bank 9", "bank" + " 0" * 600):
            self.assertEqual(wrong_line("votes 1", "size 10", row, "stop"), "none")

    def test_cells(self):
        for right in ("0 set 0 9", "1 plus 1 2 3", "2 same 6 7 0", "0 get 0 2 1 2", "1 put 7 0 0 3", "2 offer 5",
                      "show 2 3", "turn 0 1", "take 7 2", "goto 0", "mark", "stop"):
            self.assertEqual(wrong_line(*HEAD, right), "none", right)
            for other in (right + " ", " " + right, right + " 1", right + " x", right + "#", right.upper(), "3" + right,
                          right.replace("o", "0"), right.rpartition(" ")[0] + " ", right.replace("t", "")):
                if other != right:
                    self.assertEqual(wrong_line(*HEAD, "stop", other, "none"), 4, other)
            if " " in right:
                for other in (right.replace(" ", "  "), right.replace(" ", "\t"), right.rpartition(" ")[0],
                              right.replace(" ", " 0"), right.replace(" ", " +"), right.partition(" ")[2]):
                    self.assertEqual(wrong_line(*HEAD, "stop", other, "none"), 4, other)

    def test_bounds_of_cells(self):
        for row in ("0 set 0 9", "2 offer 7", "0 get 7 7 0 3", "1 put 0 0 2 1", "show 5 3", "show 0 1", "take 7 3",
                    "turn 0 3", "goto 0"):
            self.assertEqual(wrong_line(*HEAD, row), "none", row)
        for row in ("0 set 0 10", "0 set 8 0", "3 offer 7", "2 offer 8", "0 get 7 7 0 4", "0 get 7 8 0 3",
                    "1 put 0 0 3 1", "1 put 0 0 2 2", "1 put 0 0 2 0", "show 6 3", "show 0 0", "show 0 4", "take 8 3",
                    "take 7 4", "turn 0 4", "turn 0 0", "goto 4000", "turn 4000 1", "goto -1", "goto", "0 stop",
                    "stop 0", "0", " ", "0 set 0", "0 plus 0 0", "0 plus 0 0 8", "0 offer " + "9" * 6000, "votes 1",
                    "size 10", "bank", "mark 1", "0 none 0", "None", "0 set 0 True", "0 set 0 None", "\tstop",
                    "stop\r"):
            self.assertEqual(wrong_line(*HEAD, "# first", row, "none"), 4, row)

    def test_goals_are_told_behind_all_wrong_lines(self):
        self.assertEqual(wrong_line(*HEAD, "goto 1", "turn 7 1", "stop"), 4)
        self.assertEqual(wrong_line(*HEAD, "goto 2", "# x", "turn 3 1", "stop"), 5)
        self.assertEqual(wrong_line(*HEAD, "goto 3", "stop"), 3)
        self.assertEqual(wrong_line(*HEAD, "goto 2", "stop"), 3)
        self.assertEqual(wrong_line(*HEAD, "goto 3999", "turn 3999 3", "none"), 5)
        self.assertEqual(wrong_line(*HEAD, "goto 4000", "none"), 3)
        self.assertEqual(wrong_line(*HEAD, "goto 3999", "turn 3999 3"), 3)

    def test_the_4001st_cell(self):
        self.assertEqual(wrong_line(*HEAD, *["stop"] * 4000), "none")
        self.assertEqual(wrong_line(*HEAD, *["stop"] * 4001), 4003)
        self.assertEqual(wrong_line(*HEAD, "#", *["stop"] * 4001, "none"), 4004)
        self.assertEqual(wrong_line(*HEAD, "goto 3999", *["stop"] * 3999), "none")

    def test_the_lines_ahead_could_go_on(self):
        """Of the lines up to the wrong one some code's text goes on behind those ahead of it alone."""
        tail = ["stop"] * 100
        for code in some_codes(60, 5):
            rows = code_text(code).split("\n")
            for at, row in enumerate(rows):
                for other in (row + " 0", row[:-1], row.replace("1", "2"), row.replace("0", "9"), row[2:], "stop"):
                    changed = rows[:at] + [other] + rows[at + 1:]
                    found = wrong_line(*changed, *tail)
                    if found == "none":
                        self.assertEqual(code_text(code_of(lines(*changed, *tail))), lines(*changed, *tail))
                        continue
                    self.assertEqual(wrong_line(*changed[:found + 1], *tail), found)
                    rest = ["votes 1", "size 10", "bank"][found:]
                    self.assertEqual(wrong_line(*changed[:found], *rest, *tail), "none")


if __name__ == "__main__":
    unittest.main()
