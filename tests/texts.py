"""What the tests of texts have in common."""

import re
import unittest

from hueward.errors import BadText
from hueward.programs import is_program
from hueward.progtexts import completed, program_of, program_text
from tests.samples import lines, main_only

# Rows ahead of what is tested; the functions f, g and h have 0, 2 and 1 params.
HEAD = ("size 10", "array a 1 2", "function f", "function g x y", "function h x", "main")
ARRAYS = (("a", (1, 2)),)
FUNCTIONS = (("f", (), ()), ("g", ("x", "y"), ()), ("h", ("x",), ()))
TOKEN = re.compile("[a-zA-Z0-9_]+|[^ ]")


def tokens(text):
    """The tokens of a text: tuples of the place, the word and the indent."""
    found = []
    for at, row in enumerate(text.split("\n")):
        matches = list(TOKEN.finditer(row.split("#")[0]))
        for match in matches:
            indent = match.start() if match is matches[0] else None
            found.append(((at + 1, match.start() + 1), match.group(), indent))
        if matches:
            found.append(((at + 1, matches[-1].end() + 1), "end of line", None))
    found.append(((text.count("\n") + 2, 1), "end of text", None))
    return found


def told(text):
    """The tokens of a text without their places."""
    return [token[1:] for token in tokens(text)]


def wrong_place(text):
    """The place where the first wrong token begins; None if there is none."""
    try:
        program_of(text)
    except BadText as error:
        return (error.line, error.column)
    return None


def in_main(*rows):
    """A text with these rows in main."""
    return lines(*HEAD, *rows)


def program_with(*body):
    """The program that in_main tells with this body."""
    return main_only(*body, arrays=ARRAYS, functions=FUNCTIONS)


def rows_of(block):
    """The rows of a block, without the blanks around them."""
    return [row.strip() for row in block.strip().split("\n")]


class Case(unittest.TestCase):
    """Tests of texts in which an @ stands just ahead of the first wrong token."""

    def check(self, text):
        """Whatever the text is: completed shows all tokens ahead of the first wrong one, and not that one."""
        place = wrong_place(text)
        program = completed(text)
        self.assertTrue(is_program(program))
        shown = told(program_text(program))
        if place is None:
            self.assertEqual(program, program_of(text))
            self.assertEqual(shown, told(text))
            return
        places = [token[0] for token in tokens(text)]
        self.assertIn(place, places, text)
        many = places.index(place)
        self.assertEqual(shown[:many], told(text)[:many], text)
        self.assertNotEqual(shown[many:many + 1], told(text)[many:many + 1], text)

    def right(self, text, program=None):
        """The text tells a program, this one if one is given."""
        self.assertIsNone(wrong_place(text), text)
        if program is not None:
            self.assertEqual(program_of(text), program, text)
        self.check(text)

    def wrong(self, *rows):
        """The first wrong token of the lines begins at the @, or is the end of the text if there is none."""
        text = lines(*rows)
        rows = text.split("\n")
        expected = (len(rows) + 1, 1)
        for at, row in enumerate(rows):
            if "@" in row:
                expected = (at + 1, row.index("@") + 1)
        text = text.replace("@", "")
        self.assertEqual(wrong_place(text), expected, text)
        self.check(text)

    def wrong_in_main(self, *rows):
        """Likewise of these rows in main."""
        self.wrong(*HEAD, *rows)

    def all_wrong_in_main(self, block):
        """Each row of the block is wrong as a statement of main, whatever stands behind it."""
        for row in rows_of(block):
            self.wrong_in_main("  " + row)
            self.wrong_in_main("  " + row, "  stop")
