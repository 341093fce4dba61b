"""Reading texts up to the limits of parts, and completing them: [16]."""

import random
import unittest

from hueward.errors import BadText
from hueward.programs import depth_of, is_program, node_at, nodes, ports_of, runs_of
from hueward.progtexts import completed, program_of, program_text, spot_of
from tests.samples import FULL, FULL_TEXT, PROGRAM_16, STRANGE, TEXT_16
from tests.samples import crowded_programs, lines, main_only, some_programs
from tests.texts import Case, in_main, told, wrong_place

ONE = ("number", 1)


class Nodes(Case):
    """What must still come is counted."""

    def filled(self, many, *rows):
        """The rows of a text whose main has so many stops, and then these rows."""
        return in_main(*["  stop"] * many, *rows)

    def right_behind(self, many, *rows):
        self.right(self.filled(many, *rows))

    def wrong_behind(self, many, *rows):
        self.wrong(self.filled(many, *rows))

    def test_statements(self):
        for row in ("stop", "mark", "take x"):
            self.right_behind(119, "  " + row)
            self.wrong_behind(120, "  @" + row)
        for row in ("x = 1", "show 0 1", "while 1", "if 1", "a = 1", "x = f()"):
            self.right_behind(118, "  " + row)
            self.wrong_behind(119, "  @" + row)
            self.wrong_behind(120, "  @" + row)
        self.right_behind(117, "  a[1] = 2")
        self.wrong_behind(118, "  a@[1] = 2")
        self.wrong_behind(119, "  @a[1] = 2")

    def test_expressions(self):
        self.right_behind(116, "  x = (1 + 2)")
        self.wrong_behind(117, "  x = @(1 + 2)")
        self.wrong_behind(118, "  x = @(1 + 2)")
        self.wrong_behind(116, "  x = (@(1 + 2) + 3)")
        self.wrong_behind(116, "  x = (1 + @(1 + 2))")
        self.right_behind(117, "  x = a[1]")
        self.wrong_behind(118, "  x = a@[1]")
        self.wrong_behind(117, "  x = a[a@[1]]")
        self.right_behind(116, "  x = g(1, 2)")
        self.wrong_behind(117, "  x = g@(1, 2)")
        self.right_behind(117, "  x = h(1)")
        self.wrong_behind(118, "  x = h@(1)")
        self.right_behind(118, "  x = f()")

    def test_what_must_still_come(self):
        self.right_behind(114, "  x = ((1 + 2) + 3)")
        self.wrong_behind(115, "  x = (@(1 + 2) + 3)")
        self.wrong_behind(114, "  x = ((1 + 2) + @(3 + 4))")
        self.wrong_behind(114, "  x = ((1 + a@[2]) + 3)")
        self.right_behind(115, "  a[(1 + 1)] = 2")
        self.wrong_behind(116, "  a[@(1 + 1)] = 2")
        self.right_behind(115, "  a[1] = (1 + 1)")
        self.wrong_behind(116, "  a[1] = @(1 + 1)")
        self.right_behind(114, "  x = g((1 + 2), 3)")
        self.wrong_behind(115, "  x = g(@(1 + 2), 3)")
        self.wrong_behind(114, "  x = g((1 + 2), @(3 + 4))")
        self.wrong_behind(115, "  x = g(a[1], a@[2])")

    def test_elses(self):
        self.right_behind(117, "  if 1", "  else", "    stop")
        self.wrong_behind(118, "  if 1", "  @else", "    stop")
        self.wrong_behind(117, "  if 1", "    stop", "  @else")
        self.wrong_behind(117, "  if 1", "  else", "    @x = 1")
        self.wrong_behind(117, "  if 1", "  else", "    stop", "    @stop")
        self.wrong_behind(117, "  if 1", "  else")

    def test_each_part_by_itself(self):
        stops = ["  stop"] * 120
        self.right(lines("size 10", "function f", *stops, "function g", *stops, "main", *stops))
        self.wrong("size 10", "function f", *stops, "  @stop", "main")
        self.wrong("size 10", "function f", *stops[:119], "  @give 1", "main")
        self.right(lines("size 10", "function f", *stops[:118], "  give 1", "main"))
        self.wrong("size 10", "function f", *stops[:118], "  give @(1 + 1)", "main")


class Depths(Case):

    def nested(self, depth, *rows):
        """A text in whose main these rows stand at this depth."""
        around = ["  " * at + "while 1" for at in range(1, depth)]
        return in_main(*around, *["  " * depth + row for row in rows])

    def test_statements(self):
        for row in ("stop", "mark", "take x"):
            self.right(self.nested(10, row))
        for row in ("@x = 1", "@a[1] = 1", "@show 0 1", "@while 1", "@if 1"):
            self.right(self.nested(9, row.replace("@", "")))
            self.wrong(self.nested(10, row))
        self.wrong(self.nested(10, "stop", "  @stop"))
        around = ["  " * at + "while 1" for at in range(1, 10)]
        self.wrong("size 10", "function f", *around, "  " * 10 + "@give 1", "main")
        self.right(lines("size 10", "function f", *around[:8], "  " * 9 + "give 1", "main"))

    def test_expressions(self):
        for row in ("x = @(1 + 2)", "x = a@[1]", "x = h@(1)", "x = g@(1, 2)", "a[@(1 + 2)] = 1", "a[1] = @(1 + 2)",
                    "show 0 @(1 + 2)", "while @(1 + 2)", "if a@[1]"):
            self.right(self.nested(8, row.replace("@", "")))
            self.wrong(self.nested(9, row))
        for row in ("x = 1", "x = f()", "a[x] = f", "a[f()] = 1", "show 0 x", "if f()"):
            self.right(self.nested(9, row))

    def test_expressions_in_expressions(self):
        self.right(in_main("  show 0 " + "(" * 8 + "1" + " + 1)" * 8))
        self.wrong(in_main("  show 0 " + "(" * 8 + "@("))
        self.wrong(in_main("  show 0 (1 + " + "(1 + " * 7 + "@(1 + 1"))
        self.right(in_main("  show 0 " + "a[" * 8 + "f()" + "]" * 8))
        self.wrong(in_main("  show 0 " + "a[" * 8 + "a@["))
        self.right(in_main("  show 0 " + "h(" * 8 + "f()" + ")" * 8))
        self.wrong(in_main("  show 0 " + "h(" * 8 + "h@(1"))

    def test_elses(self):
        self.right(self.nested(9, "if 1", "else", "  stop"))
        self.wrong(self.nested(9, "if 1", "else", "  @x = 1"))

    def test_programs_at_the_limits(self):
        for program in crowded_programs(60):
            self.right(program_text(program), program)


class Reading(Case):

    def test_the_example(self):
        self.right(TEXT_16, PROGRAM_16)
        self.assertEqual([node[0] for node in nodes(PROGRAM_16, "main")][4:8], ["number", "let", "run", "local"])
        self.assertEqual(node_at(PROGRAM_16, ("main", 7)), ("local", "y"))
        self.assertEqual((depth_of(PROGRAM_16, ("main", 7)), spot_of(PROGRAM_16, ("main", 7))), (4, (8, 11)))
        self.assertEqual((ports_of(PROGRAM_16, "main"), runs_of(PROGRAM_16, "main")), ((2,), ("f",)))
        self.assertEqual(wrong_place(TEXT_16.replace("f(y)", "f(y, 1)")), (8, 12))
        self.assertEqual(wrong_place(TEXT_16.replace("  stop", "  x[0] = 1")), (10, 4))
        self.assertEqual(wrong_place(TEXT_16.replace("  stop", "  show 2")), (10, 9))

    def test_no_strings(self):
        strange = [value for value in STRANGE if not isinstance(value, str)]
        for value in strange + [b"size 10\nmain", [TEXT_16], (TEXT_16,), PROGRAM_16, {TEXT_16: 1}]:
            for read in (program_of, completed):
                with self.assertRaises(BadText) as caught:
                    read(value)
                self.assertEqual((caught.exception.line, caught.exception.column), (1, 1))

    def test_strings_that_are_no_texts(self):
        for value, place in (("", (2, 1)), ("x", (1, 1)), ("main", (1, 1)), ("size", (1, 5))):
            self.assertEqual(wrong_place(value), place)
            self.assertTrue(is_program(completed(value)))

    def test_the_place_hangs_on_what_is_ahead_alone(self):
        ahead = in_main("  x = (1 + 2", "")
        for behind in ("", "size 10", "  stop", "?", "\n\n\n", ")", "main", "    else"):
            self.assertEqual(wrong_place(ahead + behind), (7, 13))
        self.assertEqual(wrong_place("size 1"), (1, 6))
        self.assertEqual(wrong_place("size 1 ((((\n?"), (1, 6))

    def test_long_texts(self):
        self.right("size 10\nmain\n" + "# remark\n" * 2000 + "  stop\n", main_only(("stop",)))
        self.assertEqual(wrong_place("(" * 20000), (1, 1))
        self.assertEqual(wrong_place("size 10\nmain\n  x = " + "(" * 19000), (3, 15))
        self.assertEqual(wrong_place("size " + "1" * 19000), (1, 6))


class Completing(Case):

    def test_right_texts(self):
        for program in [FULL, PROGRAM_16] + some_programs(60, 60):
            self.assertEqual(completed(program_text(program)), program)
        self.assertEqual(completed("size 10\n\nmain # x\n  x=1"), main_only(("let", "x", ONE)))

    def test_cut_anywhere(self):
        for text in (FULL_TEXT, TEXT_16, in_main("  if 1", "  else", "    if 1", "    else", "      stop")):
            for at in range(len(text) + 1):
                self.check(text[:at])

    def test_wrong_anywhere(self):
        for at in range(len(TEXT_16) + 1):
            for sign in ("?", " ", "x", "(", "1", "\n", "#", "=", "else"):
                self.check(TEXT_16[:at] + sign + TEXT_16[at:])
                self.check(TEXT_16[:at] + sign + TEXT_16[at + 1:])

    def test_the_example(self):
        text = "size 3\nmain\n  x = ("
        program = completed(text)
        self.assertEqual(told(program_text(program))[:8], told(text)[:8])
        self.assertEqual(program[0], 3)

    def test_names_that_are_taken(self):
        rows = ["array a 1", "array b 1", "array c 1"]
        self.check(lines("size 10", *rows, "array"))
        self.check(lines("size 10", *rows, "function d", "function e", "function"))
        self.check(lines("size 10", *rows, "array f 1", "function"))

    def test_texts_changed_at_random(self):
        chance = random.Random(5)
        for program in some_programs(150, 40) + crowded_programs(50):
            text = program_text(program)
            for _ in range(4):
                self.check(self.changed(chance, text))

    def changed(self, chance, text):
        """The text with one row changed, doubled, left out or moved."""
        rows = text.split("\n")
        at = chance.randrange(len(rows))
        what = chance.randrange(6)
        if what == 0:
            rows[at] = "  " * chance.randint(0, 10) + rows[at].strip()
        elif what == 1:
            del rows[at]
        elif what == 2:
            rows.insert(at, chance.choice(rows))
        elif what == 3:
            rows.insert(at, "  " * chance.randint(0, 10) + "else")
        else:
            begin = chance.randint(0, len(rows[at]))
            end = begin + chance.choice((0, 0, 1, 2))
            rows[at] = rows[at][:begin] + chance.choice(("", " ")) + chance.choice(self.WORDS) + rows[at][end:]
        return "\n".join(rows)

    WORDS = (
        "array else function give if main mark rest show size stop take while x y a bb f g7 ( ) [ ] = < + - * , # ? "
        "A _ 0 1 2 007 9999 10000 10001 3x abcdefghi"
    ).split(" ")


if __name__ == "__main__":
    unittest.main()
