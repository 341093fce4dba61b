"""Where the items of a row come from: [20]."""

import unittest

from hueward.meaning import Run
from hueward.programs import part_names
from tests.samples import FULL, PROGRAM_16, PROGRAM_21, crowded_programs, main_only, some_programs

ZERO, ONE, TWO, THREE = [("number", number) for number in range(4)]
X = ("local", "x")
Y = ("local", "y")
STOP = ("stop",)
TAKE_X = ("take", "x")
SHOW_X = ("show", 0, X)
ARRAYS = (("a", (1, 2)), ("b", (3, 4)))

# Carriers.
TAKES = ("takes",)
IN_A = ("array", "a")
IN_B = ("array", "b")


def local(x, part="main"):
    """The carrier of a local."""
    return ("local", part, x)


def sources(*body, inputs=(), functions=(), arrays=ARRAYS):
    """The sources of a run that comes to its end."""
    run = Run(main_only(*body, arrays=arrays, functions=functions), list(inputs))
    run.go(1000)
    assert run.state == "stopped"
    return run.sources


class Carried(unittest.TestCase):

    def check(self, found, *sets):
        """The sources are these sets of carriers, each in any order."""
        self.assertEqual(found, [tuple(sorted(carriers)) for carriers in sets])

    def check_value(self, expression, *carriers, ahead=()):
        """A show of the expression has these carriers."""
        self.assertEqual(sources(*ahead, ("show", 0, expression))[-2], tuple(sorted(carriers)))


class Values(Carried):

    def test_numbers(self):
        self.check_value(THREE)
        self.check_value(("plus", ONE, TWO))

    def test_locals(self):
        self.check_value(X, local("x"))
        self.check_value(("local", "unset"), local("unset"))
        self.check_value(X, local("x"), local("y"), ahead=[("let", "x", Y)])
        self.check_value(X, local("x"), ahead=[("let", "x", X)])

    def test_cells(self):
        self.check_value(("cell", "a", ONE), IN_A)
        self.check_value(("cell", "a", X), IN_A, local("x"))
        self.check_value(("cell", "a", ("cell", "b", X)), IN_A, IN_B, local("x"))

    def test_words(self):
        for word in ("plus", "minus", "times", "rest", "less", "same"):
            self.check_value((word, X, Y), local("x"), local("y"))
            self.check_value((word, ("cell", "a", X), ("cell", "b", Y)), local("x"), local("y"), IN_A, IN_B)
            self.check_value((word, ZERO, Y), local("y"))

    def test_values_do_not_matter(self):
        """What is known to change nothing is carried all the same."""
        self.check_value(("times", ZERO, X), local("x"))
        self.check_value(("minus", X, X), local("x"))


class Lets(Carried):

    def test_the_set_is_that_of_the_value(self):
        self.check(sources(("let", "x", ("plus", Y, ("cell", "a", ONE))), SHOW_X), [local("x"), local("y"), IN_A], [])

    def test_in_place_of_the_one_it_had(self):
        self.check(sources(("let", "x", Y), ("let", "x", ONE), SHOW_X), [local("x")], [])
        self.check(sources(TAKE_X, ("let", "x", ONE), SHOW_X), [TAKES], [local("x")], [])

    def test_through_others(self):
        z = ("local", "z")
        self.check(sources(("let", "x", Y), ("let", "z", X), ("show", 0, z)), [local("x"), local("y"), local("z")], [])


class Arrays(Carried):

    def test_puts_add(self):
        cell = ("show", 0, ("cell", "a", ONE))
        self.check(sources(("put", "a", ONE, X), cell), [IN_A, local("x")], [])
        self.check(sources(("put", "a", X, ONE), cell), [IN_A, local("x")], [])
        self.check(sources(("put", "a", X, Y), cell), [IN_A, local("x"), local("y")], [])
        self.check(sources(("put", "a", ONE, X), ("put", "a", ONE, Y), cell), [IN_A, local("x"), local("y")], [])
        self.check(sources(("put", "a", ZERO, X), ("put", "a", ONE, ONE), cell), [IN_A, local("x")], [])

    def test_each_array_by_itself(self):
        self.check(sources(("put", "a", ONE, X), ("show", 0, ("cell", "b", ONE))), [IN_B], [])
        self.check(sources(("put", "a", ONE, X), ("put", "b", ONE, ("cell", "a", ONE)),
                           ("show", 0, ("cell", "b", ONE))),
                   [IN_A, IN_B, local("x")], [])

    def test_from_running_to_running(self):
        functions = [("f", ("p",), (("put", "a", ZERO, ("local", "p")),))]
        self.check(sources(("let", "x", ("run", "f", (Y,))), ("show", 0, ("cell", "a", ONE)), functions=functions),
                   [IN_A, local("y"), local("p", "f")], [])


class Takes(Carried):

    def test_takes(self):
        self.check(sources(TAKE_X, SHOW_X), [TAKES], [TAKES, local("x")], [])
        self.check(sources(TAKE_X, ("take", "y"), ("show", 0, Y)), [TAKES], [TAKES], [TAKES, local("y")], [])
        self.check(sources(("let", "x", Y), TAKE_X, SHOW_X), [TAKES], [TAKES, local("x")], [])

    def test_the_inputs_keep_the_grounds_of_takes(self):
        self.check(sources(("if", Y, (), (TAKE_X,)), ("take", "z"), ("show", 0, ("local", "z"))),
                   [TAKES, local("y")], [TAKES, local("y")], [TAKES, local("y"), local("z")], [])


class Grounds(Carried):

    def test_ifs(self):
        for test, body in ((ONE, "first"), (ZERO, "second")):
            inner = (("show", 1, TWO),)
            bodies = (inner, ()) if body == "first" else ((), inner)
            self.check(sources(("if", ("plus", ("times", X, ZERO), test), *bodies), ("show", 2, ONE)), [local("x")], [],
                       [])

    def test_each_kind_of_statement(self):
        def within(*statements):
            return ("if", ("same", X, ZERO), statements, ())
        self.check(sources(within(("show", 0, Y))), [local("x"), local("y")], [])
        self.check(sources(within(("let", "z", Y)), ("show", 0, ("local", "z"))), [local("x"), local("y"), local("z")],
                   [])
        self.check(sources(within(("put", "a", ONE, Y)), ("show", 0, ("cell", "a", ONE))),
                   [IN_A, local("x"), local("y")], [])
        self.check(sources(within(("take", "z"))), [TAKES, local("x")], [])
        self.check(sources(within(STOP)), [local("x")])
        self.check(sources(within(("mark",))), [])

    def test_behind_a_body_its_test_is_open_no_more(self):
        self.check(sources(("if", X, (), (("show", 0, ONE),)), ("show", 0, ONE), ("if", Y, (), (("show", 0, ONE),)),
                           STOP),
                   [local("x")], [], [local("y")], [])

    def test_a_branch_that_is_not_taken_leaves_nothing(self):
        self.check(sources(("if", X, (("let", "y", ONE),), ()), ("show", 0, Y)), [local("y")], [])

    def test_tests_in_tests(self):
        self.check(sources(("if", X, (), (
            ("show", 0, ONE), ("if", Y, (), (("show", 1, ONE),)), ("show", 2, ONE),
            ("if", ("cell", "a", ZERO), (("show", 3, ONE),), ()), ("show", 4, ONE),
        )), ("show", 5, ONE)), [local("x")], [local("x"), local("y")], [local("x")], [local("x"), IN_A], [local("x")],
        [], [])

    def test_whiles(self):
        less = ("let", "x", ("minus", X, ONE))
        self.check(sources(("let", "x", TWO), ("while", X, (("show", 0, ONE), less)), ("show", 1, ONE), SHOW_X),
                   [local("x")], [local("x")], [], [local("x")], [])

    def test_a_while_that_ends(self):
        """A test that is 0 is not open; what its body set in the rounds ahead stays set."""
        self.check(sources(("while", X, ()), ("show", 0, ONE), STOP), [], [])
        self.check(sources(("let", "x", ONE), ("while", ("same", X, ONE), (("let", "x", Y),)), SHOW_X),
                   [local("x"), local("y")], [])

    def test_the_test_of_a_while_has_not_its_own_ground(self):
        functions = [("f", (), (("show", 1, ONE), ("give", ("cell", "a", ZERO))))]
        found = sources(("while", ("run", "f", ()), (("put", "a", ZERO, ZERO), ("show", 2, ONE))), functions=functions)
        self.check(found, [], [IN_A], [], [])

    def test_stop_tells_its_ground(self):
        self.check(sources(("if", X, (), (("while", ONE, (("if", Y, (), (STOP,)),)),))), [local("x"), local("y")])
        self.check(sources(("if", X, (), (("show", 0, ONE),))), [local("x")], [])


class Runnings(Carried):

    def test_params_have_the_sets_of_their_arguments(self):
        functions = [("f", ("p", "q"),
                      (("show", 0, ("local", "p")), ("show", 1, ("local", "q")), ("give", ("local", "p"))))]
        self.check(sources(("show", 2, ("run", "f", (X, ("cell", "a", ONE)))), functions=functions),
                   [local("p", "f"), local("x")], [local("q", "f"), IN_A], [local("p", "f"), local("x")], [])

    def test_params_do_not_have_the_ground(self):
        functions = [("f", ("p",), (("give", ("local", "p")),))]
        self.check(sources(("if", Y, (), (("let", "z", ("run", "f", (X,))), ("show", 0, ("local", "z")))),
                           functions=functions),
                   [local("p", "f"), local("x"), local("y"), local("z")], [])

    def test_the_ground_of_the_step_that_began_it(self):
        functions = [("f", (), (("show", 0, ONE), ("give", ONE))),
                     ("g", (), (("let", "z", ("run", "f", ())), ("show", 1, ONE)))]
        run_g = ("let", "z", ("run", "g", ()))
        self.check(sources(("if", X, (), (run_g,)), run_g, functions=functions), [local("x")], [local("x")], [], [], [])

    def test_gives(self):
        functions = [("f", (), (("if", X, (), (("give", Y),)),))]
        self.check(sources(("show", 0, ("run", "f", ())), functions=functions), [local("x", "f"), local("y", "f")], [])

    def test_gives_from_within_several_bodies(self):
        functions = [("f", (), (("while", ONE, (("if", X, (), (("while", ("same", Y, ZERO), (("give", ONE),)),)),)),))]
        self.check(sources(("show", 0, ("run", "f", ())), ("show", 1, ONE), functions=functions),
                   [local("x", "f"), local("y", "f")], [], [])

    def test_the_end_of_a_body(self):
        functions = [("f", (), (("if", X, (), (("let", "y", ONE),)),))]
        self.check(sources(("show", 0, ("run", "f", ())), functions=functions), [], [])
        run_f = ("show", 0, ("run", "f", ()))
        self.check(sources(("if", Y, (), (run_f,)), functions=functions), [local("y")], [])

    def test_the_ground_comes_with_what_is_given(self):
        """The value of a run within a test carries the test, wherever it is put."""
        functions = [("f", (), (("give", ONE),)), ("g", (), (("if", X, (), (("give", ("run", "f", ())),)),))]
        self.check(sources(("let", "y", ("run", "g", ())), ("show", 0, Y), functions=functions),
                   [local("x", "g"), local("y")], [])

    def test_each_running_begins_with_empty_sets(self):
        functions = [("f", ("p",), (("show", 0, X), ("let", "x", ("local", "p"))))]
        first, second = ("let", "y", ("run", "f", (Y,))), ("let", "y", ("run", "f", (ONE,)))
        self.check(sources(first, second, functions=functions), [local("x", "f")], [local("x", "f")], [])

    def test_locals_of_unlike_parts(self):
        functions = [("f", (), (("let", "x", ONE), ("give", X)))]
        self.check(sources(("show", 0, ("plus", X, ("run", "f", ()))), functions=functions),
                   [local("x"), local("x", "f")], [])

    def test_stop_in_a_function(self):
        functions = [("f", (), (("if", Y, (), (STOP,)),))]
        self.check(sources(("if", X, (), (("let", "z", ("run", "f", ())),)), functions=functions),
                   [local("x"), local("y", "f")])

    def test_the_ground_of_main_is_kept(self):
        functions = [("f", (), (("while", ONE, (("if", Y, (), (("give", ONE),)),)),))]
        found = sources(("if", X, (), (("let", "z", ("run", "f", ())), ("show", 0, ONE))), ("show", 1, ONE),
                        functions=functions)
        self.check(found, [local("x")], [], [])


class Lists(Carried):

    def test_the_example(self):
        run = Run(PROGRAM_21, [17])
        run.go(13)
        self.check(run.sources, [TAKES], [IN_A, local("p", "f"), local("x"), TAKES], [])

    def test_ascending_tuples_of_carriers(self):
        for program in [FULL, PROGRAM_16, PROGRAM_21] + some_programs(100, 60) + crowded_programs(30):
            run = Run(program, [7, 8, 9])
            run.go(300)
            self.assertEqual(len(run.sources), len(run.row))
            for carriers in run.sources:
                self.assertIs(carriers.__class__, tuple)
                self.assertEqual(list(carriers), sorted(set(carriers)))
                for carrier in carriers:
                    self.assertTrue(self.is_carrier(program, carrier))

    def is_carrier(self, program, carrier):
        """Whether this is a carrier of the program."""
        if carrier[0] == "local":
            return len(carrier) == 3 and carrier[1] in part_names(program)
        if carrier[0] == "array":
            return len(carrier) == 2 and carrier[1] in [name for name, _ in program[1]]
        return carrier == TAKES


if __name__ == "__main__":
    unittest.main()
