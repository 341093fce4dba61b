"""Runs, ports, other names and other sizes: [13]."""

import unittest

from hueward.errors import BadSize, BadTable, NoPart
from hueward.programs import is_program, part_names, ports_of, renamed, resized, runs_of
from tests.samples import FULL, PROGRAM_16, STRANGE, main_only, some_programs

ONE = ("number", 1)
RUN_A = ("run", "fa", ())
RUN_B = ("run", "fb", ())
RUN_C = ("run", "fc", (ONE,))
CHAIN = (
    10,
    (("ar", (1,)),),
    (
        ("fb", (), (("show", 4, ONE),)),
        ("fa", (), (("while", ONE, (("show", 2, ("plus", ONE, RUN_B)),)),)),
        ("fc", ("x",), (("if", ("cell", "ar", RUN_A), (), (("show", 0, ONE),)),)),
        ("fd", (), (("show", 3, ONE),)),
    ),
    (("let", "x", RUN_C), ("show", 5, ONE), ("stop",), ("show", 5, ONE)),
)


class Runs(unittest.TestCase):

    def test_through_others(self):
        self.assertEqual(runs_of(CHAIN, "fb"), ())
        self.assertEqual(runs_of(CHAIN, "fa"), ("fb",))
        self.assertEqual(runs_of(CHAIN, "fc"), ("fa", "fb"))
        self.assertEqual(runs_of(CHAIN, "fd"), ())
        self.assertEqual(runs_of(CHAIN, "main"), ("fa", "fb", "fc"))

    def test_ports_through_others(self):
        self.assertEqual(ports_of(CHAIN, "fb"), (4,))
        self.assertEqual(ports_of(CHAIN, "fa"), (2, 4))
        self.assertEqual(ports_of(CHAIN, "fc"), (0, 2, 4))
        self.assertEqual(ports_of(CHAIN, "fd"), (3,))
        self.assertEqual(ports_of(CHAIN, "main"), (0, 2, 4, 5))

    def test_the_example(self):
        self.assertEqual(ports_of(PROGRAM_16, "main"), (2,))
        self.assertEqual(runs_of(PROGRAM_16, "main"), ("f",))
        self.assertEqual((ports_of(PROGRAM_16, "f"), runs_of(PROGRAM_16, "f")), ((), ()))

    def test_in_each_kind_of_node(self):
        for expression in (
            RUN_B, ("cell", "ar", RUN_B), ("plus", RUN_B, ONE), ("same", ONE, RUN_B), ("run", "fc", (RUN_B,)),
        ):
            for statement in (
                ("let", "x", expression), ("put", "ar", expression, ONE), ("put", "ar", ONE, expression),
                ("if", expression, (), ()), ("if", ONE, (("let", "x", expression),), ()),
                ("if", ONE, (), (("let", "x", expression),)), ("while", expression, ()),
                ("while", ONE, (("let", "x", expression),)), ("show", 0, expression),
            ):
                self.assertIn("fb", runs_of(CHAIN[:3] + ((statement,),), "main"))

    def test_tuples(self):
        self.assertIs(runs_of(CHAIN, "main").__class__, tuple)
        self.assertIs(ports_of(CHAIN, "main").__class__, tuple)

    def test_no_function_is_in_its_own(self):
        for program in some_programs(80, 60):
            for part in part_names(program):
                self.assertNotIn(part, runs_of(program, part))

    def test_wrong_parts(self):
        for part in STRANGE + ("ar", "fe"):
            self.assertRaises(NoPart, runs_of, CHAIN, part)
            self.assertRaises(NoPart, ports_of, CHAIN, part)


class Renaming(unittest.TestCase):

    def test_everywhere(self):
        table = {"a": "q1", "b": "q2", "f": "q3", "g": "q4", "x": "q5", "z": "q6", "n": "q7"}
        self.assertEqual(renamed(FULL, table), (
            100,
            (("q1", (1, 2, 3)), ("q2", (99,))),
            (
                ("q3", (), (("give", ("number", 7)),)),
                (
                    "q4",
                    ("q5", "y"),
                    (
                        ("if", ("less", ("local", "q5"), ("local", "y")), (("give", ("run", "q3", ())),), ()),
                        ("put", "q2", ("number", 0), ("minus", ("local", "q5"), ("local", "y"))),
                        ("give", ("rest", ("cell", "q2", ("number", 5)), ("local", "q6"))),
                    ),
                ),
            ),
            (
                ("take", "q7"),
                ("mark",),
                (
                    "while",
                    ("local", "q7"),
                    (
                        ("let", "q7", ("minus", ("local", "q7"), ("number", 1))),
                        (
                            "if",
                            ("same", ("local", "q7"), ("number", 3)),
                            (("show", 0, ("run", "q4", (("local", "q7"), ("times", ("number", 2), ("local", "q7"))))),),
                            (("show", 5, ("plus", ("cell", "q1", ("local", "q7")), ("number", 98))),),
                        ),
                    ),
                ),
                ("stop",),
            ),
        ))

    def test_all_at_once(self):
        program = main_only(("let", "x", ("local", "y")), ("take", "z"), functions=[("f", ("x", "y"), ())])
        self.assertEqual(
            renamed(program, {"x": "y", "y": "z", "z": "x"}),
            main_only(("let", "y", ("local", "z")), ("take", "x"), functions=[("f", ("y", "z"), ())]),
        )

    def test_arrays_and_functions_may_change_their_names(self):
        program = (10, (("a", (1,)),), (("f", (), (("give", ("cell", "a", ("local", "a"))),)),),
                   (("show", 0, ("run", "f", ())),))
        self.assertEqual(
            renamed(program, {"a": "f", "f": "a"}),
            (10, (("f", (1,)),), (("a", (), (("give", ("cell", "f", ("local", "f"))),)),),
             (("show", 0, ("run", "a", ())),)),
        )

    def test_joined_names(self):
        locals_only = main_only(("let", "x", ("local", "y")))
        self.assertEqual(renamed(locals_only, {"x": "y"}), main_only(("let", "y", ("local", "y"))))
        params = main_only(functions=[("f", ("x", "y"), ())])
        self.assertRaises(BadTable, renamed, params, {"x": "y"})
        arrays = main_only(arrays=[("a", (1,)), ("b", (1,))])
        self.assertRaises(BadTable, renamed, arrays, {"a": "b"})
        both = main_only(arrays=[("a", (1,))], functions=[("f", (), ())])
        self.assertRaises(BadTable, renamed, both, {"a": "f"})
        functions = main_only(functions=[("f", (), ()), ("g", (), ())])
        self.assertRaises(BadTable, renamed, functions, {"f": "g"})

    def test_words_and_other_names_that_are_none(self):
        for bad in ("main", "if", "size", "", "A", "abcdefghi", 1, None, ("x",), True):
            self.assertRaises(BadTable, renamed, FULL, {bad: "x"})
            self.assertRaises(BadTable, renamed, FULL, {"unused": bad})
            self.assertRaises(BadTable, renamed, FULL, {"a": "q", "n": bad})

    def test_no_tables(self):
        for table in (None, 0, True, "ab", "", [], (), ["a", "b"], [("a", "b")], (("a", "b"),), {"a": ["b"]},
                      {"a": {}}):
            self.assertRaises(BadTable, renamed, FULL, table)

    def test_names_that_do_not_occur(self):
        self.assertEqual(renamed(FULL, {}), FULL)
        self.assertEqual(renamed(FULL, {"unused": "a", "more": "f"}), FULL)

    def test_words_of_nodes_stay(self):
        program = main_only(("let", "let", ("plus", ("local", "plus"), ("local", "local"))))
        changed = main_only(("let", "x", ("plus", ("local", "y"), ("local", "z"))))
        self.assertEqual(renamed(program, {"let": "x", "plus": "y", "local": "z"}), changed)

    def test_undone_by_the_table_turned_round(self):
        for program in some_programs(60, 60):
            table = {"a": "n1", "f": "n2", "x": "n3", "g7": "n4", "zz": "n5"}
            back = {new: old for old, new in table.items()}
            changed = renamed(program, table)
            self.assertTrue(is_program(changed))
            self.assertEqual(renamed(changed, back), program)


class Resizing(unittest.TestCase):

    def test_sizes(self):
        for size in (100, 101, 10000):
            self.assertEqual(resized(FULL, size), (size,) + FULL[1:])

    def test_too_small(self):
        for size in (99, 50, 2):
            self.assertRaises(BadSize, resized, FULL, size)
        program = main_only(("show", 0, ("number", 6)), arrays=[("a", (7,))], size=10)
        self.assertEqual(resized(program, 8)[0], 8)
        self.assertRaises(BadSize, resized, program, 7)
        inside = main_only(functions=[("f", (), (("while", ("number", 6), ()),))], size=10)
        self.assertEqual(resized(inside, 7)[0], 7)
        self.assertRaises(BadSize, resized, inside, 6)

    def test_ports_are_no_numbers(self):
        self.assertEqual(resized(main_only(("show", 5, ("number", 0))), 2)[0], 2)

    def test_no_sizes(self):
        for size in (None, True, 0, 1, -5, 10001, "10", (10,), [10], {}, 10 ** 99):
            self.assertRaises(BadSize, resized, (2, (), (), ()), size)
        self.assertEqual(resized((2, (), (), ()), 10000), (10000, (), (), ()))


if __name__ == "__main__":
    unittest.main()
