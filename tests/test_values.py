"""Names and programs: [7], [8], [11]."""

import unittest

from hueward.errors import BadProgram
from hueward.meaning import source_row
from hueward.programs import is_name, is_program, nodes
from tests.samples import FULL, PROGRAM_16, PROGRAM_21, STRANGE, main_only, nested_sums, nested_whiles, some_programs

TEXT_WORDS = ("array", "else", "function", "give", "if", "main", "mark", "rest", "show", "size", "stop", "take",
              "while")
ONE = ("number", 1)
EXPRESSIONS = (
    ("number", 1), ("local", "x"), ("cell", "a", ONE), ("plus", ONE, ONE), ("minus", ONE, ONE), ("times", ONE, ONE),
    ("rest", ONE, ONE), ("less", ONE, ONE), ("same", ONE, ONE), ("run", "f", (ONE, ONE)),
)
STATEMENTS = (
    ("let", "x", ONE), ("put", "a", ONE, ONE), ("if", ONE, (), ()), ("while", ONE, ()), ("show", 0, ONE),
    ("take", "x"), ("give", ONE), ("stop",), ("mark",),
)
WITH_BOTH = {"arrays": [("a", (1, 2))], "functions": [("f", ("x", "y"), ())]}


def in_main(statement):
    """Whether there is a program with this statement in main."""
    return is_program(main_only(statement, **WITH_BOTH))


def in_function(statement):
    """Whether there is a program with this statement in a function."""
    program = main_only(**WITH_BOTH)
    return is_program(program[:2] + (program[2] + (("g", ("z",), (statement,)),),) + program[3:])


class Names(unittest.TestCase):

    def test_names(self):
        for name in ("a", "z", "abcdefgh", "a1234567", "z9", "x0", "plus", "number", "local", "cell", "run", "put",
                     "let"):
            self.assertTrue(is_name(name), name)

    def test_words_are_none(self):
        for word in TEXT_WORDS:
            self.assertFalse(is_name(word), word)
            self.assertTrue(is_name(word[:-1] + "0"), word)
            self.assertFalse(in_main(("take", word)))

    def test_words_that_begin_with_a_word_are_names(self):
        for name in ("arrays", "elsea", "giver", "ifs", "mains", "sizes", "stops", "whiles", "i", "el"):
            self.assertTrue(is_name(name), name)

    def test_others_are_none(self):
        for value in ("", "1", "1a", "A", "aB", "a_", "_a", "a b", " a", "a ", "a\n", "abcdefghi", "a12345678", "a-",
                      "a.b", "\u00e9", "a\u00e9", "a\u0661", "\u0430", "a\u00b2", b"a", ("a",), ["a"], None, True, 0,
                      1, {}, {"a": 1}, 10):
            self.assertFalse(is_name(value), value)


class Sizes(unittest.TestCase):

    def test_size(self):
        for size in (2, 3, 9999, 10000):
            self.assertTrue(is_program((size, (), (), ())))
        for size in (0, 1, -2, 10001, True, None, "2", (2,), 10 ** 99):
            self.assertFalse(is_program((size, (), (), ())))

    def test_numbers_are_below_the_size(self):
        self.assertTrue(is_program(main_only(("show", 0, ("number", 9)), size=10)))
        for number in (10, -1, True, None, "1", (1,)):
            self.assertFalse(is_program(main_only(("show", 0, ("number", number)), size=10)))

    def test_values_are_below_the_size(self):
        self.assertTrue(is_program(main_only(arrays=[("a", (0, 9))], size=10)))
        for number in (10, -1, True, None, "1", (1,)):
            self.assertFalse(is_program(main_only(arrays=[("a", (0, number))], size=10)))


class Arrays(unittest.TestCase):

    def test_count(self):
        arrays = tuple([("a" + str(at), (1,)) for at in range(7)])
        self.assertTrue(is_program((10, arrays[:6], (), ())))
        self.assertFalse(is_program((10, arrays, (), ())))

    def test_lengths(self):
        self.assertTrue(is_program((10, (("a", (1,)),), (), ())))
        self.assertTrue(is_program((10, (("a", (1,) * 64),), (), ())))
        self.assertFalse(is_program((10, (("a", ()),), (), ())))
        self.assertFalse(is_program((10, (("a", (1,) * 65),), (), ())))

    def test_names_are_unlike(self):
        self.assertFalse(is_program((10, (("a", (1,)), ("a", (2,))), (), ())))
        self.assertFalse(is_program((10, (("a", (1,)),), (("a", (), ()),), ())))
        self.assertFalse(is_program((10, (), (("f", (), ()), ("f", (), ())), ())))
        self.assertTrue(is_program((10, (("a", (1,)), ("b", (1,))), (("f", (), ()), ("g", (), ())), ())))

    def test_none_is_main(self):
        self.assertFalse(is_program((10, (("main", (1,)),), (), ())))
        self.assertFalse(is_program((10, (), (("main", (), ()),), ())))

    def test_shapes(self):
        for array in STRANGE + (("a",), ("a", (1,), 1), ["a", (1,)], ("a", [1]), ("a", 1), (1, (1,)), (("a",), (1,))):
            self.assertFalse(is_program((10, (array,), (), ())), array)
        for arrays in (None, [], [("a", (1,))], {}, {"a": (1,)}, "a", 1):
            self.assertFalse(is_program((10, arrays, (), ())), arrays)


class Functions(unittest.TestCase):

    def test_count(self):
        functions = tuple([("f" + str(at), (), ()) for at in range(7)])
        self.assertTrue(is_program((10, (), functions[:6], ())))
        self.assertFalse(is_program((10, (), functions, ())))

    def test_params(self):
        self.assertTrue(is_program((10, (), (("f", ("a", "b", "c", "d"), ()),), ())))
        for params in (("a", "b", "c", "d", "e"), ("a", "a"), ("a", "b", "a"), ["a"], ("main",), ("A",), (1,),
                       None, "a", (["a"],)):
            self.assertFalse(is_program((10, (), (("f", params, ()),), ())), params)

    def test_params_may_have_the_names_of_others(self):
        self.assertTrue(is_program((10, (("a", (1,)),), (("f", ("a", "f"), (("let", "a", ("local", "f")),)),), ())))

    def test_shapes(self):
        for function in STRANGE + (("f", ()), ("f", (), (), ()), ["f", (), ()], ("f", (), []), ("f", (), None),
                                    (1, (), ())):
            self.assertFalse(is_program((10, (), (function,), ())), function)
        for functions in (None, [], [("f", (), ())], {}, "f", 1):
            self.assertFalse(is_program((10, (), functions, ())), functions)

    def test_a_function_runs_only_those_ahead(self):
        def having(*names):
            run_f, run_g = ("show", 0, ("run", "f", ())), ("show", 0, ("run", "g", ()))
            bodies = {"f": (), "g": (), "F": (run_f,), "G": (run_g,)}
            functions = (("f", (), bodies[names[0]]), ("g", (), bodies[names[1]]))
            return is_program((10, (), functions, (run_f, run_g)))
        self.assertTrue(having("f", "g"))
        self.assertTrue(having("f", "F"))
        self.assertFalse(having("F", "g"))
        self.assertFalse(having("G", "g"))
        self.assertFalse(having("f", "G"))

    def test_arguments(self):
        for many in range(6):
            params = ("a", "b", "c", "d")[:many]
            for given in range(6):
                program = main_only(("show", 0, ("run", "f", (ONE,) * given)), functions=[("f", params, ())])
                self.assertEqual(is_program(program), given == len(params))

    def test_runs_of_what_is_no_function(self):
        for name in ("a", "h", "main", "g", 1, None, ("f",), ["f"], {}):
            self.assertFalse(in_function(("give", ("run", name, (ONE, ONE)))), name)

    def test_arguments_are_a_tuple(self):
        for arguments in ([ONE, ONE], None, ONE, {}, "ab", (ONE, None), (ONE, 1)):
            self.assertFalse(in_main(("show", 0, ("run", "f", arguments))))


class Statements(unittest.TestCase):

    def test_each(self):
        for statement in STATEMENTS:
            self.assertEqual(in_main(statement), statement[0] != "give", statement)
            self.assertEqual(in_function(statement), statement[0] != "mark", statement)

    def test_give_and_mark_deep_inside(self):
        for depth in (2, 5):
            self.assertFalse(in_main(nested_whiles(depth, ("give", ONE))[0]))
            self.assertTrue(in_function(nested_whiles(depth, ("give", ONE))[0]))
            self.assertFalse(in_function(nested_whiles(depth, ("mark",))[0]))
            self.assertTrue(in_main(nested_whiles(depth, ("mark",))[0]))
        self.assertFalse(in_main(("if", ONE, (), (("give", ONE),))))
        self.assertFalse(in_function(("if", ONE, (), (("mark",),))))

    def test_lengths(self):
        for statement in STATEMENTS:
            for inside in (in_main, in_function):
                self.assertFalse(inside(statement[:-1]), statement)
                self.assertFalse(inside(statement + (ONE,)), statement)
                self.assertFalse(inside(list(statement)), statement)

    def test_ports(self):
        for port in (0, 1, 5):
            self.assertTrue(in_main(("show", port, ONE)))
        for port in (-1, 6, True, False, None, "0", (0,)):
            self.assertFalse(in_main(("show", port, ONE)))

    def test_names(self):
        for word in ("let", "put"):
            rest = (ONE,) if word == "let" else (ONE, ONE)
            for name in (1, None, "A", "stop", "", ("a",), ["a"], {}):
                self.assertFalse(in_main((word, name) + rest), name)
        for name in ("x", "f", "b", "main", "g"):
            self.assertFalse(in_main(("put", name, ONE, ONE)), name)
        for name in ("a", "f", "g", "z"):
            self.assertTrue(in_main(("let", name, ONE)))
            self.assertTrue(in_main(("take", name)))
            self.assertTrue(in_main(("show", 0, ("local", name))))

    def test_bodies(self):
        for body in ((), (("stop",),), (("stop",), ("stop",))):
            self.assertTrue(in_main(("while", ONE, body)))
            self.assertTrue(in_main(("if", ONE, body, ())))
            self.assertTrue(in_main(("if", ONE, (), body)))
        for body in ([], [("stop",)], None, ("stop",), ONE, (ONE,), (("stop",), None), {}, "stop", (("while",),)):
            self.assertFalse(in_main(("while", ONE, body)), body)
            self.assertFalse(in_main(("if", ONE, body, ())), body)
            self.assertFalse(in_main(("if", ONE, (), body)), body)
            self.assertFalse(is_program((10, (), (), body)), body)
            self.assertFalse(is_program((10, (), (("f", (), body),), ())), body)

    def test_statements_are_no_expressions(self):
        for statement in STATEMENTS:
            self.assertFalse(in_main(("show", 0, statement)))
            self.assertFalse(in_function(("give", statement)))
        for value in STRANGE + EXPRESSIONS + (("end",), ("jump",), ("body", ()), (("stop",),), ("stop", ()), (1, 2)):
            self.assertFalse(in_main(value), value)


class Expressions(unittest.TestCase):

    def test_each(self):
        for expression in EXPRESSIONS:
            self.assertTrue(in_main(("show", 0, expression)), expression)
            self.assertFalse(in_main(("show", 0, expression[:-1])), expression)
            self.assertFalse(in_main(("show", 0, expression + (ONE,))), expression)
            self.assertFalse(in_main(("show", 0, list(expression))), expression)

    def test_deep_inside(self):
        for bad in STRANGE + (("number", 10), ("local", "if"), ("cell", "x", ONE), ("run", "f", (ONE,)), ("stop",),
                              ["number", 1]):
            for outer in (
                ("cell", "a", bad), ("plus", bad, ONE), ("plus", ONE, bad), ("run", "f", (ONE, bad)),
                ("less", ONE, ("rest", ONE, ("cell", "a", bad))),
            ):
                self.assertFalse(in_main(("show", 0, outer)), bad)
                self.assertFalse(in_main(("put", "a", outer, ONE)), bad)
                self.assertFalse(in_main(("put", "a", ONE, outer)), bad)
                self.assertFalse(in_main(("while", ONE, (("if", outer, (), ()),))), bad)

    def test_arrays_of_cells(self):
        for name in ("f", "x", "b", "main", 1, None, ("a",), ["a"], {}):
            self.assertFalse(in_main(("show", 0, ("cell", name, ONE))))

    def test_other_words(self):
        for word in ("add", "div", "mod", "PLUS", "", "equal", "more", 1, None, ("plus",), ["plus"], {}, True):
            self.assertFalse(in_main(("show", 0, (word, ONE, ONE))))


class Limits(unittest.TestCase):

    def test_nodes(self):
        for many in (0, 1, 119, 120):
            self.assertTrue(is_program(main_only(*(("stop",),) * many)))
        self.assertFalse(is_program(main_only(*(("stop",),) * 121)))
        self.assertTrue(is_program(main_only(*(("show", 0, ONE),) * 60)))
        self.assertFalse(is_program(main_only(*(("show", 0, ONE),) * 60 + (("stop",),))))

    def test_nodes_inside_count(self):
        inside = (("stop",),) * 59
        self.assertTrue(is_program(main_only(("if", ONE, inside, inside))))
        self.assertFalse(is_program(main_only(("if", ONE, inside + (("stop",),), inside))))
        self.assertFalse(is_program(main_only(("if", ONE, inside, inside + (("stop",),)))))
        functions = [("f", ("a", "b", "c", "d"), ())]
        shows = (("show", 0, ("run", "f", (ONE,) * 4)),) * 20
        self.assertTrue(is_program(main_only(*shows, functions=functions)))
        self.assertFalse(is_program(main_only(("mark",), *shows, functions=functions)))

    def test_each_part_has_its_own_nodes(self):
        body = (("stop",),) * 120
        functions = tuple([("f" + str(at), (), body) for at in range(6)])
        self.assertTrue(is_program((10, (), functions, body)))
        for at in range(6):
            others = functions[:at] + (("g", (), body + body[:1]),) + functions[at + 1:]
            self.assertFalse(is_program((10, (), others, body)))

    def test_depth_of_statements(self):
        self.assertTrue(is_program(main_only(*nested_whiles(10, ("stop",)))))
        self.assertFalse(is_program(main_only(*nested_whiles(11, ("stop",)))))
        self.assertTrue(is_program(main_only(*nested_whiles(9, ("show", 0, ONE)))))
        self.assertFalse(is_program(main_only(*nested_whiles(10, ("show", 0, ONE)))))

    def test_depth_of_expressions(self):
        self.assertTrue(is_program(main_only(("show", 0, nested_sums(9)))))
        self.assertFalse(is_program(main_only(("show", 0, nested_sums(10)))))
        cells = ("number", 1)
        for _ in range(8):
            cells = ("cell", "a", cells)
        self.assertTrue(in_main(("show", 0, cells)))
        self.assertFalse(in_main(("show", 0, ("cell", "a", cells))))

    def test_depth_of_arguments(self):
        functions = [("f", ("x",), ()), ("g", (), ())]
        runs = ("run", "g", ())
        for _ in range(8):
            runs = ("run", "f", (runs,))
        self.assertTrue(is_program(main_only(("show", 0, runs), functions=functions)))
        self.assertFalse(is_program(main_only(("show", 0, ("run", "f", (runs,))), functions=functions)))
        self.assertTrue(is_program(main_only(*nested_whiles(9, ("show", 0, ("run", "g", ()))), functions=functions)))

    def test_depth_in_functions(self):
        for depth, fits in ((9, True), (10, True), (11, False)):
            function = ("f", (), nested_whiles(depth, ("stop",)))
            self.assertEqual(is_program(main_only(functions=[function])), fits)
            function = ("f", (), (("give", nested_sums(depth - 1)),))
            self.assertEqual(is_program(main_only(functions=[function])), fits)

    def test_values_nested_deep(self):
        value = ()
        for _ in range(39):
            value = ("plus", value, value)
        for strange in (value, (10, (), (), value), main_only(("show", 0, value)), (value,) * 4):
            self.assertFalse(is_program(strange))
        deep = []
        for _ in range(39):
            deep = [deep]
        self.assertFalse(is_program(main_only(("show", 0, deep))))
        self.assertFalse(is_program(main_only(deep)))


class Programs(unittest.TestCase):

    def test_programs(self):
        for program in [FULL, PROGRAM_16, PROGRAM_21, (2, (), (), ())] + some_programs(100, 60):
            self.assertTrue(is_program(program))

    def test_none(self):
        for value in STRANGE + (FULL[:3], FULL + ((),), list(FULL), FULL[0], FULL[3], {1: FULL}, (FULL,)):
            self.assertFalse(is_program(value))
            self.assertRaises(BadProgram, nodes, value, "main")

    def test_no_rule_looks_at_sets_and_gives(self):
        self.assertTrue(is_program(main_only(("show", 0, ("local", "x")), functions=[("f", ("y",), ())])))
        self.assertTrue(in_function(("show", 0, ("local", "unset"))))
        self.assertTrue(in_main(("while", ONE, ())))


class Rows(unittest.TestCase):
    """[8]"""

    def test_items(self):
        program = main_only(("take", "x"), ("show", 3, ("local", "x")), ("stop",), ("show", 1, ONE))
        self.assertEqual(source_row(program, [4], 10), [("take", 4), ("show", 3, 4), ("stop",)])

    def test_inputs_modulo_the_size(self):
        program = main_only(*(("take", "x"),) * 4, size=7)
        row = [("take", 0), ("take", 3), ("take", 9999 - 9999 // 7 * 7), ("take", 0), ("stop",)]
        self.assertEqual(source_row(program, [7, 10, 9999], 10), row)

    def test_stop_is_the_last_one(self):
        for program in some_programs(60):
            row = source_row(program, [3, 4], 400)
            self.assertNotIn(("stop",), row[:-1])


if __name__ == "__main__":
    unittest.main()
