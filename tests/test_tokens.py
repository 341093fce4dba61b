"""The tokens of texts, and the first wrong one: [15], [16]."""

import unittest

from tests.samples import lines, main_only
from tests.texts import Case, in_main, program_with, rows_of, wrong_place

X = ("local", "x")
ONE = ("number", 1)
STOP = ("stop",)


class Tokens(Case):

    def test_other_blanks(self):
        program = program_with(
            ("put", "a", ("plus", X, ONE), ("cell", "a", ("rest", X, ("number", 2)))),
            ("let", "x", ("run", "g", (ONE, ("run", "f", ())))), ("show", 3, X),
        )
        self.right(in_main("  a[(x + 1)] = a[(x rest 2)]", "  x = g(1, f())", "  show 3 x"), program)
        self.right(in_main("  a[(x+1)]=a[(x rest 2)]", "  x=g(1,f())", "  show 3 x"), program)
        self.right(in_main("  a [ ( x  +1 ) ]  =a[ ( x  rest 2)]  ", "  x =g ( 1 ,f(  ) ) ", "  show   3  x "), program)
        self.right("size  10 \nmain ", main_only())

    def test_words_need_blanks(self):
        self.wrong("@size10", "main")
        self.wrong("size 10", "@arraya 1", "main")
        self.all_wrong_in_main("""
            show3 @x
            show @3x
            stopx@
            takex@
            x = (x @rest1)
            x = (xrest @1)
            x = (x @restx)
            x = (@1rest 2)
        """)

    def test_remarks(self):
        program = main_only(("while", X, (STOP,)), ("show", 2, ONE))
        self.right(lines(
            "# first", "size 10# so large", "   # here", "main # and here", "#", "  while x #stop #stop", "  # odd",
            "#odd", "    stop#", "            # far", "  show 2 1  #  3 # 4", "#last",
        ), program)
        self.wrong("size 10", "main", "  show 2@ # 3")
        self.wrong("size@ #10", "main")
        self.wrong("size 10", "@ma#in")

    def test_lines_without_tokens(self):
        program = main_only(("while", X, (STOP,)))
        self.right("\n\nsize 10\n\n   \nmain\n\n  while x\n \n\n    stop\n\n   \n", program)
        self.right("size 10\nmain\n", main_only())
        self.right("size 10\nmain\n\n\n", main_only())
        self.wrong("\n\n@main")
        self.wrong("size 10\n\n# x\n  \nmain\n\n   @stop")

    def test_single_signs(self):
        for sign in "\t\r\f\v.;:!?$&'\"\\|~^`{}>/\u00e9\u00a0\u0661\u3000\U0001f600":
            self.wrong(f"@{sign}size 10", "main")
            self.wrong(f"size 10@{sign}", "main")
            self.wrong("size 10", f"@{sign}", "main")
            for row in (f"x = (1 @{sign} 2)", f"x = 1@{sign}", f"@{sign}", f"x@{sign} = 1"):
                self.wrong_in_main("  " + row)
            self.assertEqual(wrong_place(in_main("  stop", f" {sign} stop")), (8, 2))

    def test_other_words(self):
        for word in ("_", "X", "x_", "xY", "_x", "x__1", "Stop", "MAIN"):
            self.wrong("size 10", "main", f"  @{word} = 1")
            self.wrong("size 10", "main", f"  x = (1 + @{word})")
            self.wrong("size 10", f"array @{word} 1", "main")

    def test_the_end_of_a_line(self):
        self.wrong("size@", "10", "main")
        self.wrong("size@   ", "main")
        self.wrong("size@")
        self.wrong("size 10", "main", "  x =@    # 1")
        self.wrong("size 10", "main", "  x@   ")

    def test_the_end_of_the_text(self):
        for text in ("", "\n", "\n\n\n", " ", "# x", "size 10", "size 10\n", "size 10\n\n\n", "size 10\narray a 1",
                     "size 10\nfunction f", "size 10\nfunction f\n  while 1\n    stop"):
            self.wrong(text)
        self.wrong_in_main("  if 1", "  else")
        self.wrong_in_main("  if 1", "  else", "  # x", "")
        self.assertEqual(wrong_place(""), (2, 1))
        self.assertEqual(wrong_place("size 10\n\n"), (4, 1))

    def test_indents_belong_to_first_tokens_alone(self):
        self.right("size     10\nmain", main_only())
        self.wrong(" @size 10", "main")
        self.wrong("size 10", " @array a 1", "main")
        self.wrong("size 10", "  @function f", "main")
        self.wrong("size 10", " @main")
        self.wrong("size 10", "  @main")


class Headings(Case):

    def test_sizes(self):
        for row in rows_of("""
            @main
            @10
            @Size 10
            @sizes 10
            size @1
            size @0
            size @10001
            size @100000000000000000000
            size @010
            size @x
            size @-5
            size @2x
            size @main
            size 10 @11
            size 10 @main
        """):
            self.wrong(row, "main")
        self.wrong("size 10", "@size 10", "main")
        self.wrong("size 10", "@10", "main")
        for size in (2, 9999, 10000):
            self.right(f"size {size}\nmain", (size, (), (), ()))

    def test_arrays(self):
        for row in rows_of("""
            array@
            array @if 1
            array @A 1
            array @abcdefghi 1
            array @main 1
            array @array 1
            array @3 1
            array a@
            array a @10
            array a @x
            array a @-1
            array a 1 @10
            array a 1 @01
            array a 1 @1_0
            array a 1@, 2
            array a 1 @x
            array a 1 @main
            @arrays a 1
            @Array a 1
        """):
            self.wrong("size 10", row, "main")
        self.right("size 10\narray abcdefgh 0 9 0\nmain")

    def test_places_of_arrays(self):
        self.wrong("size 10", "array a 1", "array @a 2", "main")
        self.wrong("size 10", "array a 1", "array b 1", "array @a 2", "main")
        self.wrong("size 10", "function f", "@array a 1", "main")
        self.wrong("size 10", "main", "@array a 1")

    def test_counts_of_arrays(self):
        self.right("size 10\narray a" + " 1" * 64 + "\nmain")
        self.wrong("size 10\narray a" + " 1" * 64 + " @1\nmain")
        rows = [f"array a{at} 1" for at in range(6)]
        self.right(lines("size 10", *rows, "main"))
        self.wrong("size 10", *rows, "@array a6 1", "main")

    def test_functions(self):
        for row in rows_of("""
            function@
            function @1
            function @main
            function @function
            function @a
            function @F
            function f x @x
            function f x y @x
            function f @main
            function f @rest
            function f @3
            function f @X
            function f@(x)
            function f x@, y
            function f p q r s @t
            function f p q r s @p
            @functions f
        """):
            self.wrong("size 10", "array a 1", row, "main")
        self.right("size 10\narray a 1\nfunction f a f c d\nmain")

    def test_places_of_functions(self):
        self.wrong("size 10", "function f", "function @f", "main")
        self.wrong("size 10", "function f", "function g", "function @f", "main")
        self.wrong("size 10", "main", "  stop", "@function f")
        rows = [f"function f{at} x" for at in range(6)]
        self.right(lines("size 10", *rows, "main"))
        self.wrong("size 10", *rows, "@function f6", "main")
        self.wrong("size 10", *rows, "  stop", "@function f6", "main")

    def test_main(self):
        self.wrong("size 10", "main @x")
        self.wrong("size 10", "main@(")
        self.wrong("size 10", "@mains")
        self.wrong("size 10", "main", "@main")
        self.wrong("size 10", "main", "  stop", "@main")

    def test_indents_of_first_statements(self):
        for indent in (0, 1, 3, 4):
            self.wrong("size 10", "main", " " * indent + "@stop")
            self.wrong("size 10", "function f", " " * indent + "@stop", "main")
        for indent in (0, 2):
            self.wrong("size 10", " " * indent + "@stop", "main")
            self.wrong("size 10", "array a 1", " " * indent + "@take x", "main")


class Statements(Case):

    def test_beginnings(self):
        self.all_wrong_in_main("""
            @give 1
            @else
            @rest
            @size 10
            @array a 1
            @main
            @function f
            @3 = 1
            @(x + 1)
            @= 1
            @abcdefghi = 1
            @[
            @)
            let @x = 1
        """)
        self.right("size 10\nfunction f\n  give 1\n  if 1\n    give 2\nmain\n  mark\n  while 1\n    mark")
        self.wrong("size 10", "function f", "  @mark", "main")
        self.wrong("size 10", "function f", "  while 1", "    @mark", "main")
        self.wrong_in_main("  while 1", "    @give 1")
        self.wrong_in_main("  if 1", "    stop", "  else", "    @give 1")

    def test_lets_and_puts(self):
        self.all_wrong_in_main("""
            x@
            x @1
            x @+ 1
            x =@
            x = 1 @2
            x = @= 1
            x@[1] = 2
            f@(1)
            f@() = 1
            f@[1] = 2
            a@
            a@(1) = 2
            a@, x = 1
            a[@] = 2
            a[1 @= 2
            a[1 @2]
            a[1@, 2] = 3
            a[1]@
            a[1] @+ 1
            a[1]@[1] = 2
            a[1] =@
            a[1] = 2 @3
        """)
        self.right(in_main("  a = 1", "  f = a", "  a[a] = f"), program_with(
            ("let", "a", ONE), ("let", "f", ("local", "a")), ("put", "a", ("local", "a"), ("local", "f")),
        ))
        self.wrong("size 10", "main", "  a@[1] = 2")
        self.wrong("size 10", "function b", "main", "  b@[1] = 2")

    def test_others(self):
        self.all_wrong_in_main("""
            take@
            take @1
            take @if
            take a@[1]
            take x @y
            take @(
            take x@, y
            show@
            show @6 x
            show @x x
            show @-1 1
            show @05 1
            show @(
            show 0@
            show 0 1 @2
            show 0@, 1
            stop @1
            stop@()
            mark @x
            while@
            while 1 @x
            while x@:
            while @while
            if@
            if 1 @else
            if @else
        """)
        self.wrong("size 10", "function f", "  give@", "main")
        self.wrong("size 10", "function f", "  give 1 @2", "main")
        self.wrong("size 10", "function f", "  give @give", "main")

    def test_lines_cut_off(self):
        for row in ("x =", "x = (", "x = (1", "x = (1 +", "x = (1 + 2", "x = f(", "x = g(", "x = g(1", "x = g(1,",
                    "x = g(1, 2", "x = a[", "x = a[1", "a[", "a[1", "a[1]", "a[1] =", "show", "show 1", "take", "while",
                    "if", "x"):
            self.wrong_in_main("  " + row + "@")
            self.wrong_in_main("  " + row + "@", "  stop")
            self.wrong_in_main("  " + row + "@  # more")

    def test_indents(self):
        for indent in (0, 1, 3, 4):
            self.wrong_in_main("  stop", " " * indent + "@stop")
            self.wrong_in_main("  x = 1", " " * indent + "@while x")
        for indent in (0, 1, 3, 5, 6):
            self.wrong_in_main("  while x", " " * indent + "@stop")
            self.wrong_in_main("  while x", "    stop", " " * indent + "@stop")
            self.wrong_in_main("  if x", "    stop", "  else", "    stop", " " * indent + "@stop")
        self.right(in_main("  while x", "  stop"), program_with(("while", X, ()), STOP))
        self.right(in_main("  while x", "    while x", "  stop"), program_with(("while", X, (("while", X, ()),)), STOP))

    def test_elses_without_ifs(self):
        self.wrong_in_main("  @else", "    stop")
        self.wrong_in_main("  stop", "  @else")
        self.wrong_in_main("  while x", "    stop", "  @else")
        self.wrong_in_main("  if x", "    stop", "  else", "    stop", "  @else")
        self.wrong_in_main("  if x", "    stop", "  x = 1", "  @else")
        self.wrong_in_main("  if x", "  stop", "  @else")
        self.wrong_in_main("  if x", "    while x", "    @else")
        for indent in (0, 1, 3, 4):
            self.wrong_in_main("  if x", " " * indent + "@else")
            self.wrong_in_main("  if x", "    stop", " " * indent + "@else")
        self.wrong_in_main("  if x", "  elses@")
        self.right(
            in_main("  if x", "    if x", "  else", "    if x", "    else", "      stop"),
            program_with(("if", X, (("if", X, (), ()),), (("if", X, (), (STOP,)),))),
        )

    def test_elses_without_bodies(self):
        for row in ("  @stop", "@stop", "      @stop", "  @else", "    @else", "   @stop"):
            self.wrong_in_main("  if x", "  else", row)
        self.wrong_in_main("  if x", "  else @stop")
        self.wrong_in_main("  if x", "  else @if x")
        self.wrong_in_main("  if x", "  else@:")
        self.wrong("size 10", "function f", "  if x", "  else", "@main")
        self.wrong("size 10", "function f", "  if x", "  else", "@function g", "main")


class Expressions(Case):

    WRONG = """
        @10
        @00
        @01
        @123456
        @A
        @if
        @rest
        @main
        @main()
        @)
        @+
        @-1
        @[1]
        (@)
        (1@)
        (1 @1)
        (1 + @)
        (1 + 2 @+ 3)
        (1 + @rest)
        (1 @? 2)
        (1 @> 2)
        (1 @/ 2)
        (1 = @= 2)
        (1 <@= 2)
        (1 @, 2)
        (@rest rest 1)
        ((1 + 2) @1)
        x@[0]
        x@(1)
        f@[0]
        f(@1)
        f(@,)
        a@(1)
        a[@]
        a[1 @+ 2]
        g(@)
        g(@, 1)
        g(1@)
        g(1, @)
        g(1 @2)
        g(1, 2@, 3)
        g((1 @, 2))
        h(1@, 2)
        k@(1)
    """

    def test_wrong_ones(self):
        for around in ("x = {}", "a[0] = {}", "show 1 {}", "while {}", "if {}", "x = (1 + {})", "x = h({})",
                       "x = g(1, {})", "x = a[{}]"):
            for row in rows_of(self.WRONG):
                self.wrong_in_main("  " + around.format(row))

    def test_right_ones(self):
        for row in ("9", "x", "a", "f", "f()", "a[0]", "g(1, x)", "(f + a)", "(f() = a[a])", "h(h(h))", "(1 rest x)",
                    "plus", "abcdefgh"):
            self.right(in_main("  show 0 " + row))

    def test_functions_that_do_not_stand_ahead(self):
        self.wrong("size 10", "function f", "  give f@()", "main")
        self.wrong("size 10", "function f", "  give g@()", "function g", "main")
        self.wrong("size 10", "function g g", "  give g@(1)", "main")
        self.wrong("size 10", "main", "  x = f@()")
        self.wrong("size 10", "function f", "main", "  x = g@()")
        self.right("size 10\nfunction f\n  give f\nfunction g\n  give f()\nmain\n  x = (f() + g())")


if __name__ == "__main__":
    unittest.main()
