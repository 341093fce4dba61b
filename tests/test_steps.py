"""The values of expressions, and the steps of a run: [17], [18]."""

import unittest

from hueward.meaning import Run, source_row
from tests.reference import Reference, differences
from tests.samples import FULL, PROGRAM_16, PROGRAM_21, crowded_programs, main_only, some_programs

ZERO, ONE, TWO, THREE = [("number", number) for number in range(4)]
X = ("local", "x")
Y = ("local", "y")
STOP = ("stop",)


def value(expression, *inputs, size=10, arrays=(), functions=()):
    """The value of an expression, with x and y set to inputs."""
    program = main_only(("take", "x"), ("take", "y"), ("show", 0, expression), size=size, arrays=arrays,
                        functions=functions)
    return source_row(program, list(inputs), 1000)[2][2]


def shows(program, *inputs):
    """What a run shows, as pairs of port and number, up to its end."""
    row = source_row(program, list(inputs), 5000)
    assert row[-1] == STOP
    return [item[1:] for item in row if item[0] == "show"]


def places(program, *inputs):
    """The places of all steps of a run."""
    run = Run(program, list(inputs))
    found = []
    while run.state == "running" and run.steps < 1000:
        found.append(run.place)
        run.go(1)
    return found


def in_main(*found):
    """Places of main."""
    return [("main", at) for at in found]


class Values(unittest.TestCase):

    def test_numbers(self):
        for number in (0, 1, 9):
            self.assertEqual(value(("number", number)), number)
        self.assertEqual(value(("number", 9999), size=10000), 9999)

    def test_locals(self):
        self.assertEqual(value(X, 7, 3), 7)
        self.assertEqual(value(Y, 7, 3), 3)
        self.assertEqual(value(("local", "unset"), 7, 3), 0)

    def test_cells(self):
        arrays = (("a", (5, 6, 7)), ("b", (8,)))
        for index, number in ((0, 5), (1, 6), (2, 7), (3, 5), (4, 6), (8, 7), (9, 5)):
            self.assertEqual(value(("cell", "a", X), index, arrays=arrays), number)
            self.assertEqual(value(("cell", "b", X), index, arrays=arrays), 8)
        long = (("a", tuple(range(64))),)
        for index in (0, 63, 64, 99):
            self.assertEqual(value(("cell", "a", X), index, size=100, arrays=long), index % 64)

    def test_cells_of_cells(self):
        self.assertEqual(value(("cell", "a", ("cell", "a", ("cell", "a", ZERO))), arrays=(("a", (2, 9, 1)),)), 9)

    def test_sums(self):
        for size in (2, 7, 10, 10000):
            for one in (0, 1, size // 2, size - 2, size - 1):
                for other in (0, 1, size // 2, size - 1):
                    self.assertEqual(value(("plus", X, Y), one, other, size=size), (one + other) % size)
                    self.assertEqual(value(("minus", X, Y), one, other, size=size), (one - other) % size)
                    self.assertEqual(value(("times", X, Y), one, other, size=size), one * other % size)

    def test_sums_that_go_round(self):
        self.assertEqual(value(("plus", X, Y), 9, 9), 8)
        self.assertEqual(value(("minus", X, Y), 0, 9), 1)
        self.assertEqual(value(("minus", X, Y), 3, 3), 0)
        self.assertEqual(value(("times", X, Y), 9, 9), 1)
        self.assertEqual(value(("times", X, Y), 9999, 9999, size=10000), 1)

    def test_rest(self):
        for one, other, number in ((7, 3, 1), (3, 7, 3), (6, 3, 0), (5, 1, 0), (0, 4, 0), (9, 0, 0), (0, 0, 0),
                                   (1, 0, 0)):
            self.assertEqual(value(("rest", X, Y), one, other), number)

    def test_comparisons(self):
        for one in range(4):
            for other in range(4):
                self.assertEqual(value(("less", X, Y), one, other), 1 if one < other else 0)
                self.assertEqual(value(("same", X, Y), one, other), 1 if one == other else 0)

    def test_runs(self):
        functions = (("f", ("p", "q"), (("give", ("minus", ("local", "p"), ("local", "q"))),)),)
        self.assertEqual(value(("run", "f", (X, Y)), 7, 3, functions=functions), 4)
        self.assertEqual(value(("run", "f", (Y, X)), 7, 3, functions=functions), 6)
        inner = ("run", "f", (X, Y))
        self.assertEqual(value(("run", "f", (inner, ("run", "f", (inner, ONE)))), 7, 3, functions=functions), 1)


class Expressions(unittest.TestCase):
    """An expression is one step, behind the steps of its operands from left to right."""

    def test_leaves(self):
        self.assertEqual(places(main_only(("show", 0, ONE))), in_main(1, 0, 2))
        self.assertEqual(places(main_only(("show", 0, X))), in_main(1, 0, 2))

    def test_operands(self):
        for word in ("plus", "minus", "times", "rest", "less", "same"):
            self.assertEqual(places(main_only(("show", 0, (word, (word, ONE, X), TWO)))), in_main(3, 4, 2, 5, 1, 0, 6))
            self.assertEqual(places(main_only(("show", 0, (word, ONE, (word, X, TWO))))), in_main(2, 4, 5, 3, 1, 0, 6))

    def test_indexes(self):
        program = main_only(("show", 0, ("cell", "a", ("plus", ONE, X))), arrays=[("a", (1,))])
        self.assertEqual(places(program), in_main(3, 4, 2, 1, 0, 5))

    def test_arguments(self):
        functions = [("f", ("p", "q"), (("give", ("local", "q")),))]
        program = main_only(("show", 0, ("run", "f", (("plus", ONE, TWO), X))), functions=functions)
        self.assertEqual(places(program), in_main(3, 4, 2, 5, 1) + [("f", 1), ("f", 0)] + in_main(0, 6))

    def test_runs_within_arguments(self):
        functions = [("f", (), (("give", ONE),)), ("g", ("p", "q"), (STOP,))]
        program = main_only(("show", 0, ("run", "g", (("run", "f", ()), ("run", "f", ())))), functions=functions)
        given = [("f", 1), ("f", 0)]
        self.assertEqual(places(program), in_main(2) + given + in_main(3) + given + in_main(1) + [("g", 0)])

    def test_the_left_operand_is_first(self):
        functions = [("f", (), (("put", "a", ZERO, ("plus", ("cell", "a", ZERO), ONE)), ("give", ("cell", "a", ZERO))))]
        run_f = ("run", "f", ())
        for word, number in (("minus", 9), ("less", 1), ("rest", 1)):
            program = main_only(("show", 0, (word, run_f, run_f)), arrays=[("a", (0,))], functions=functions)
            self.assertEqual(shows(program), [(0, number)])
        functions.append(("g", ("p", "q"), (("give", ("minus", ("local", "p"), ("local", "q"))),)))
        program = main_only(("show", 0, ("run", "g", (run_f, run_f))), arrays=[("a", (0,))], functions=functions)
        self.assertEqual(shows(program), [(0, 9)])

    def test_values_are_taken_as_they_were(self):
        """What a running changes does not change an operand that was worked out ahead of it."""
        functions = [("f", (), (("put", "a", ZERO, ("number", 5)), ("give", ONE)))]
        cell = ("cell", "a", ZERO)
        program = main_only(("show", 0, ("plus", cell, ("run", "f", ()))),
                            ("show", 1, ("plus", ("run", "f", ()), cell)),
                            arrays=[("a", (2,))], functions=functions)
        self.assertEqual(shows(program), [(0, 3), (1, 6)])


class Statements(unittest.TestCase):

    def test_let(self):
        self.assertEqual(places(main_only(("let", "x", ("plus", ONE, X)))), in_main(2, 3, 1, 0, 4))
        self.assertEqual(shows(main_only(("let", "x", THREE), ("let", "x", ("plus", X, X)), ("show", 0, X))), [(0, 6)])

    def test_put(self):
        program = main_only(("put", "a", ("plus", ONE, X), ("plus", X, TWO)), arrays=[("a", (1,))])
        self.assertEqual(places(program), in_main(2, 3, 1, 5, 6, 4, 0, 7))

    def test_put_takes_its_index_as_cells_do(self):
        for index in range(10):
            run = Run(main_only(("take", "x"), ("put", "a", X, ("number", 7)), arrays=[("a", (1, 2, 3))]), [index])
            run.go(4)
            expected = [1, 2, 3]
            expected[index % 3] = 7
            self.assertEqual(run.cells("a"), expected)

    def test_put_works_out_its_index_first(self):
        functions = [("f", (), (("put", "a", ZERO, ONE), ("give", ("number", 8))))]
        program = main_only(("put", "a", ("cell", "a", ZERO), ("run", "f", ())), arrays=[("a", (2, 2, 2))],
                            functions=functions)
        run = Run(program, [])
        run.go(100)
        self.assertEqual(run.cells("a"), [1, 2, 8])

    def test_show(self):
        program = main_only(("show", 5, THREE), ("show", 0, ("number", 9)))
        self.assertEqual(places(program), in_main(1, 0, 3, 2, 4))
        self.assertEqual(source_row(program, [], 9), [("show", 5, 3), ("show", 0, 9), STOP])
        self.assertEqual(source_row(program, [], 1), [])
        self.assertEqual(source_row(program, [], 2), [("show", 5, 3)])

    def test_take(self):
        program = main_only(("take", "x"), ("take", "y"), ("show", 0, X), ("show", 1, Y), ("take", "x"), ("show", 2, X))
        self.assertEqual(places(program), in_main(0, 1, 3, 2, 5, 4, 6, 8, 7, 9))
        self.assertEqual(source_row(program, [9999, 13], 99), [
            ("take", 9), ("take", 3), ("show", 0, 9), ("show", 1, 3), ("take", 0), ("show", 2, 0), STOP,
        ])

    def test_inputs_beyond_the_size(self):
        for size in (2, 3, 10, 9999, 10000):
            for whole in (0, 1, size - 1, size, size + 1, 9999):
                if whole <= 9999:
                    self.assertEqual(source_row(main_only(("take", "x"), size=size), [whole], 1),
                                     [("take", whole % size)])

    def test_inputs_behind_the_last_one(self):
        program = main_only(*(("take", "x"),) * 4)
        self.assertEqual(source_row(program, [5], 9), [("take", 5), ("take", 0), ("take", 0), ("take", 0), STOP])
        self.assertEqual(source_row(program, [], 2), [("take", 0)] * 2)

    def test_mark_does_nothing(self):
        program = main_only(("let", "x", THREE), ("mark",), ("show", 0, X), ("mark",))
        self.assertEqual(places(program), in_main(1, 0, 2, 4, 3, 5, 6))
        self.assertEqual(source_row(program, [], 9), [("show", 0, 3), STOP])

    def test_stop(self):
        program = main_only(("show", 0, ONE), STOP, ("show", 0, TWO))
        self.assertEqual(places(program), in_main(1, 0, 2))
        self.assertEqual(source_row(program, [], 99), [("show", 0, 1), STOP])

    def test_stop_within_a_function(self):
        functions = [("f", (), (("while", ONE, (("show", 1, ONE), STOP)),)), ("g", (), (("give", ("run", "f", ())),))]
        program = main_only(("show", 2, ("plus", ("run", "g", ()), ONE)), ("show", 0, TWO), functions=functions)
        self.assertEqual(source_row(program, [], 99), [("show", 1, 1), STOP])
        self.assertEqual(places(program), [("main", 2), ("g", 1), ("f", 1), ("f", 0), ("f", 3), ("f", 2), ("f", 4)])


class Bodies(unittest.TestCase):

    def test_if(self):
        program = main_only(("take", "x"), ("if", X, (("show", 1, ONE),), (("show", 2, TWO),)), ("show", 3, THREE))
        for number in (1, 2, 9):
            self.assertEqual(places(program, number), in_main(0, 2, 1, 4, 3, 8, 7, 9))
            self.assertEqual(shows(program, number), [(1, 1), (3, 3)])
        self.assertEqual(places(program, 0), in_main(0, 2, 1, 6, 5, 8, 7, 9))
        self.assertEqual(shows(program, 0), [(2, 2), (3, 3)])

    def test_empty_bodies_of_an_if(self):
        neither = main_only(("take", "x"), ("if", X, (), ()))
        self.assertEqual(places(neither, 1), in_main(0, 2, 1, 3))
        self.assertEqual(places(neither, 0), in_main(0, 2, 1, 3))
        first = main_only(("take", "x"), ("if", X, (STOP,), ()), ("mark",))
        self.assertEqual(places(first, 1), in_main(0, 2, 1, 3))
        self.assertEqual(places(first, 0), in_main(0, 2, 1, 4, 5))
        second = main_only(("take", "x"), ("if", X, (), (STOP,)), ("mark",))
        self.assertEqual(places(second, 1), in_main(0, 2, 1, 4, 5))
        self.assertEqual(places(second, 0), in_main(0, 2, 1, 3))

    def test_while(self):
        program = main_only(("take", "x"), ("while", X, (("let", "x", ("minus", X, ONE)),)), ("show", 0, X))
        around = [2, 1, 5, 6, 4, 3]
        self.assertEqual(places(program, 0), in_main(0, 2, 1, 8, 7, 9))
        self.assertEqual(places(program, 1), in_main(0, *around, 2, 1, 8, 7, 9))
        self.assertEqual(places(program, 3), in_main(0, *around * 3, 2, 1, 8, 7, 9))

    def test_an_empty_while(self):
        program = main_only(("while", ONE, ()))
        run = Run(program, [])
        found = []
        for _ in range(6):
            found.append(run.place)
            run.go(1)
        self.assertEqual(found, in_main(1, 0, 1, 0, 1, 0))
        run.go(10000)
        self.assertEqual((run.state, run.steps, run.row), ("running", 10006, []))
        self.assertEqual(places(main_only(("while", ZERO, ()))), in_main(1, 0, 2))

    def test_the_test_is_worked_out_again(self):
        functions = [("f", (),
                      (("put", "a", ZERO, ("minus", ("cell", "a", ZERO), ONE)), ("give", ("cell", "a", ZERO))))]
        program = main_only(("while", ("run", "f", ()), (("show", 0, ("cell", "a", ZERO)),)),
                            arrays=[("a", (4,))], functions=functions)
        self.assertEqual(shows(program), [(0, 3), (0, 2), (0, 1)])

    def test_bodies_in_bodies(self):
        inner = ("while", Y, (("let", "y", ZERO),))
        program = main_only(("let", "x", TWO), ("while", X, (
            ("let", "y", ONE), ("if", ("same", X, ONE), (inner,), ()), ("let", "x", ("minus", X, ONE)),
        )))
        self.assertEqual(places(program), in_main(
            1, 0, 3, 2, 5, 4, 8, 9, 7, 6, 16, 17, 15, 14,
            3, 2, 5, 4, 8, 9, 7, 6, 11, 10, 13, 12, 11, 10, 16, 17, 15, 14,
            3, 2, 18,
        ))

    def test_ifs_at_the_ends_of_bodies(self):
        """Several bodies end at once, without a step."""
        program = main_only(("let", "x", ONE), ("while", X, (
            ("let", "x", ZERO), ("if", ONE, (("if", ZERO, (), (("if", ONE, (("mark",),), ()),)),), ()),
        )))
        self.assertEqual(places(program), in_main(1, 0, 3, 2, 5, 4, 7, 6, 9, 8, 11, 10, 12, 3, 2, 13))


class Runnings(unittest.TestCase):

    def test_locals_of_its_own(self):
        functions = [("f", ("p",), (("show", 1, X), ("let", "x", ("local", "p")), ("show", 2, X)))]
        program = main_only(("let", "x", ("number", 7)), ("let", "p", ("number", 8)),
                            ("let", "y", ("run", "f", (ONE,))),
                            ("let", "y", ("run", "f", (TWO,))), ("show", 3, X), ("show", 4, ("local", "p")),
                            functions=functions)
        self.assertEqual(shows(program), [(1, 0), (2, 1), (1, 0), (2, 2), (3, 7), (4, 8)])

    def test_params_can_be_set(self):
        functions = [("f", ("p", "q"), (("let", "p", ("plus", ("local", "p"), ("local", "q"))), ("take", "q"),
                                        ("give", ("plus", ("local", "p"), ("local", "q")))))]
        self.assertEqual(shows(main_only(("show", 0, ("run", "f", (ONE, TWO))), functions=functions), 4), [(0, 7)])

    def test_names_of_arrays_and_functions(self):
        functions = [("f", ("a",),
                      (("let", "f", ("plus", ("local", "a"), ("cell", "a", ZERO))), ("give", ("local", "f"))))]
        program = main_only(("let", "f", THREE), ("show", 0, ("run", "f", (("local", "f"),))), arrays=[("a", (5,))],
                            functions=functions)
        self.assertEqual(shows(program), [(0, 8)])

    def test_arrays_belong_to_the_program(self):
        functions = [("f", (), (("put", "a", ZERO, ("plus", ("cell", "a", ZERO), ONE)),))]
        run_f = ("let", "x", ("run", "f", ()))
        program = main_only(run_f, run_f, run_f, ("show", 0, ("cell", "a", ZERO)), arrays=[("a", (0,))],
                            functions=functions)
        self.assertEqual(shows(program), [(0, 3)])

    def test_the_end_gives_zero(self):
        functions = [("f", ("p",), (("let", "x", THREE),)), ("g", (), ())]
        program = main_only(("show", 0, ("plus", ("run", "f", (ONE,)), ("number", 4))), ("show", 1, ("run", "g", ())),
                            functions=functions)
        self.assertEqual(shows(program), [(0, 4), (1, 0)])
        self.assertEqual(places(program), in_main(3, 2) + [("f", 1), ("f", 0), ("f", 2)] + in_main(4, 1, 0, 6)
                         + [("g", 0)] + in_main(5, 7))

    def test_the_end_of_main_stops(self):
        self.assertEqual(places((2, (), (), ())), in_main(0))
        self.assertEqual(source_row((2, (), (), ()), [], 1), [STOP])
        self.assertEqual(source_row(main_only(("mark",)), [], 1), [])

    def test_give_ends_the_running(self):
        functions = [("f", ("p",), (
            ("while", ONE, (
                ("if", ("local", "p"), (("while", ONE, (("give", ("local", "p")), STOP)), STOP), (("give", TWO), STOP)),
                STOP,
            )),
            STOP,
        ))]
        program = main_only(("show", 0, ("run", "f", (THREE,))), ("show", 1, ("run", "f", (ZERO,))), ("show", 2, ONE),
                            functions=functions)
        self.assertEqual(shows(program), [(0, 3), (1, 2), (2, 1)])
        self.assertEqual(places(program)[:12],
                         in_main(2, 1) + [("f", at) for at in (1, 0, 3, 2, 5, 4, 7, 6)] + in_main(0, 5))

    def test_a_running_goes_on_where_it_was(self):
        functions = [("f", (), (("while", ONE, (("give", ONE),)),)),
                     ("g", ("p",), (
                         ("while", ("local", "p"), (("let", "p", ("minus", ("local", "p"), ("run", "f", ()))),)),
                         ("give", ("number", 6)),
                     ))]
        program = main_only(("let", "x", TWO), ("while", X, (
            ("show", 0, ("run", "g", (X,))), ("let", "x", ("minus", X, ("run", "f", ()))),
        )), ("show", 1, X), functions=functions)
        self.assertEqual(shows(program), [(0, 6), (0, 6), (1, 0)])

    def test_the_example(self):
        self.assertEqual(places(PROGRAM_21, 17), in_main(0, 2, 4, 3) + [("f", at) for at in (2, 3, 1, 0)]
                         + in_main(1, 7, 6, 5, 8))
        self.assertEqual(source_row(PROGRAM_21, [17], 13), [("take", 7), ("show", 2, 8), STOP])


class Others(unittest.TestCase):

    def test_as_another_reading_does_it(self):
        """At each step of many runs all is as in tests/reference.py."""
        programs = [FULL, PROGRAM_16, PROGRAM_21] + crowded_programs(60)
        for most in (10, 30, 60):
            programs += some_programs(150, most)
        for at, program in enumerate(programs):
            inputs = [(0, 1, 5, 17, 9999, 123)[(at + more) % 6] for more in range(at % 4)]
            run, other = Run(program, inputs), Reference(program, inputs)
            self.assertEqual(differences(run, other), [])
            while other.place is not None and other.steps < 100:
                run.go(1)
                other.step()
                self.assertEqual(differences(run, other), [], program)


if __name__ == "__main__":
    unittest.main()
