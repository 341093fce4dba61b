"""The texts of programs, and where their nodes stand: [14]."""

import unittest

from hueward.errors import BadPlace
from hueward.programs import nodes, part_names
from hueward.progtexts import program_of, program_text, spot_of
from tests.samples import FULL, FULL_TEXT, PROGRAM_16, PROGRAM_21, STRANGE, TEXT_16
from tests.samples import Maker, crowded_programs, lines, main_only, some_programs

ONE = ("number", 1)
X = ("local", "x")
ARRAYS = (("a", (1, 2)),)
FUNCTIONS = (("f", (), ()), ("g", ("x",), ()), ("h", ("x", "y", "z"), ()))
HEAD = ("size 10", "array a 1 2", "function f", "function g x", "function h x y z", "main")

# What is written for each expression.
EXPRESSIONS = (
    (("number", 0), "0"),
    (("number", 9), "9"),
    (X, "x"),
    (("local", "a"), "a"),
    (("cell", "a", ONE), "a[1]"),
    (("cell", "a", ("cell", "a", X)), "a[a[x]]"),
    (("plus", X, ONE), "(x + 1)"),
    (("minus", X, ONE), "(x - 1)"),
    (("times", X, ONE), "(x * 1)"),
    (("rest", X, ONE), "(x rest 1)"),
    (("less", X, ONE), "(x < 1)"),
    (("same", X, ONE), "(x = 1)"),
    (("plus", ("minus", ONE, X), ("times", X, ONE)), "((1 - x) + (x * 1))"),
    (("run", "f", ()), "f()"),
    (("run", "g", (X,)), "g(x)"),
    (("run", "h", (X, ("plus", ONE, X), ("run", "f", ()))), "h(x, (1 + x), f())"),
    (("cell", "a", ("run", "g", (("cell", "a", ONE),))), "a[g(a[1])]"),
)


def whole_text(*rows):
    """The text of a program with ARRAYS and FUNCTIONS and these rows in main."""
    return lines(*HEAD, *rows)


def whole_program(*body):
    """A program with ARRAYS and FUNCTIONS and this main."""
    return main_only(*body, arrays=ARRAYS, functions=FUNCTIONS)


class Writing(unittest.TestCase):

    def check(self, program, text):
        """The text is that of the program, there and back."""
        self.assertEqual(program_text(program), text)
        self.assertEqual(program_of(text), program)

    def test_the_examples(self):
        self.check(PROGRAM_16, TEXT_16)
        self.check(FULL, FULL_TEXT)
        self.check(PROGRAM_21, lines(
            "size 10", "array a 3 4", "function f p", "  give (p * 4)", "main", "  take x", "  a[x] = f(x)",
            "  show 2 a[1]",
        ))

    def test_the_least_program(self):
        self.check((2, (), (), ()), "size 2\nmain")
        self.check((10000, (), (), ()), "size 10000\nmain")

    def test_arrays(self):
        self.check((10, (("b", (0,)), ("a", (9, 0, 9))), (), ()),
                   lines("size 10", "array b 0", "array a 9 0 9", "main"))

    def test_functions(self):
        functions = (("z", (), ()), ("b", ("p", "q"), (("give", ONE),)),
                     ("c", ("b",), (("stop",), ("give", ("local", "b")))))
        self.check(main_only(functions=functions), lines(
            "size 10", "function z", "function b p q", "  give 1", "function c b", "  stop", "  give b", "main",
        ))

    def test_each_expression(self):
        for expression, told in EXPRESSIONS:
            self.check(whole_program(("show", 0, expression)), whole_text("  show 0 " + told))
            self.check(whole_program(("put", "a", expression, expression)), whole_text(f"  a[{told}] = {told}"))

    def test_each_statement(self):
        for statement, told in (
            (("let", "x", ONE), "x = 1"),
            (("let", "a", X), "a = x"),
            (("put", "a", X, ONE), "a[x] = 1"),
            (("take", "x"), "take x"),
            (("show", 5, X), "show 5 x"),
            (("stop",), "stop"),
            (("mark",), "mark"),
            (("while", X, ()), "while x"),
            (("if", X, (), ()), "if x"),
        ):
            self.check(whole_program(statement), whole_text("  " + told))
        functions = (("f", (), (("give", ("plus", X, ONE)),)),)
        self.check(main_only(functions=functions), lines("size 10", "function f", "  give (x + 1)", "main"))

    def test_bodies(self):
        stop, mark = ("stop",), ("mark",)
        self.check(main_only(("while", X, (stop, mark)), stop),
                   lines("size 10", "main", "  while x", "    stop", "    mark", "  stop"))
        self.check(main_only(("if", X, (stop,), ()), mark), lines("size 10", "main", "  if x", "    stop", "  mark"))
        self.check(main_only(("if", X, (stop,), (mark, stop)), mark),
                   lines("size 10", "main", "  if x", "    stop", "  else", "    mark", "    stop", "  mark"))
        self.check(main_only(("if", X, (), (mark,))), lines("size 10", "main", "  if x", "  else", "    mark"))

    def test_each_else_stands_as_its_if(self):
        stop, mark = ("stop",), ("mark",)
        inner = ("if", ONE, (stop,), ())
        self.check(main_only(("if", X, (inner,), (mark,))),
                   lines("size 10", "main", "  if x", "    if 1", "      stop", "  else", "    mark"))
        self.check(main_only(("if", X, (("if", ONE, (stop,), (mark,)),), ())),
                   lines("size 10", "main", "  if x", "    if 1", "      stop", "    else", "      mark"))
        self.check(main_only(("if", X, (), (("if", ONE, (), (mark,)),))),
                   lines("size 10", "main", "  if x", "  else", "    if 1", "    else", "      mark"))

    def test_ten_deep(self):
        body = (("stop",),)
        rows = []
        for depth in range(9, 0, -1):
            body = (("while", X, body), ("mark",))
            rows = ["  " * depth + "while x"] + rows
        rows = rows + ["  " * 10 + "stop"] + ["  " * depth + "mark" for depth in range(9, 0, -1)]
        self.check(main_only(*body), lines("size 10", "main", *rows))

    def test_no_newline_at_the_end(self):
        for program in some_programs(20):
            self.assertFalse(program_text(program).endswith("\n"))

    def test_there_and_back(self):
        for program in some_programs(200, 60) + crowded_programs(40):
            self.assertEqual(program_of(program_text(program)), program)


class Spots(unittest.TestCase):

    def test_the_example(self):
        self.assertEqual(spot_of(PROGRAM_16, ("main", 7)), (8, 11))
        spots = [spot_of(PROGRAM_16, ("main", at)) for at in range(11)]
        self.assertEqual(spots, [
            (6, 3), (7, 3), (7, 9), (7, 10), (7, 14), (8, 5), (8, 9), (8, 11), (9, 5), (9, 12), (10, 3),
        ])
        self.assertEqual([spot_of(PROGRAM_16, ("f", at)) for at in range(5)],
                         [(4, 3), (4, 8), (4, 9), (4, 13), (4, 15)])

    def test_of_a_put_the_index_comes_first(self):
        program = whole_program(("put", "a", ("cell", "a", ONE), ("run", "h", (X, ONE, X))))
        spots = [spot_of(program, ("main", at)) for at in range(7)]
        self.assertEqual(spots, [(7, 3), (7, 5), (7, 7), (7, 13), (7, 15), (7, 18), (7, 21)])

    def test_behind_an_else(self):
        program = main_only(("if", X, (("stop",),), (("mark",),)), ("stop",))
        self.assertEqual([spot_of(program, ("main", at)) for at in range(5)], [(3, 3), (3, 6), (4, 5), (6, 5), (7, 3)])

    def test_all_are_kinds_of_tokens(self):
        """At its spot each node begins with its first word or sign, and no two are at one spot."""
        for program in some_programs(60, 60):
            rows = program_text(program).split("\n")
            seen = []
            for part in part_names(program):
                for at, node in enumerate(nodes(program, part)):
                    line, column = spot_of(program, (part, at))
                    self.assertTrue(rows[line - 1][column - 1:].startswith(self.beginning(node)))
                    seen.append((line, column))
            self.assertEqual(seen, sorted(set(seen)))

    def beginning(self, node):
        """What the text of a node begins with."""
        if node[0] in ("let", "put", "local", "cell", "run", "number"):
            return str(node[1])
        if node[0] in ("plus", "minus", "times", "rest", "less", "same"):
            return "("
        return node[0]

    def test_wrong_places(self):
        for place in STRANGE + (("main", 11), ("f", 5), ("main", -1), ("main", True), ["main", 0], ("a", 0),
                                ("main", None)):
            self.assertRaises(BadPlace, spot_of, PROGRAM_16, place)
        self.assertRaises(BadPlace, spot_of, (2, (), (), ()), ("main", 0))


class Samples(unittest.TestCase):
    """The programs that the other tests are made with are as they have to be."""

    def test_crowded_programs_are_at_the_limits(self):
        counts = [len(nodes(program, part)) for program in crowded_programs(40) for part in part_names(program)]
        self.assertIn(120, counts)
        self.assertEqual(Maker(3).program(), Maker(3).program())


if __name__ == "__main__":
    unittest.main()
