"""What holds for all functions: [3], [4], [5], [10]."""

import copy
import unittest

from hueward import meaning, programs, progtexts
from hueward.errors import BadArray, BadIndex, BadInputs, BadLength, BadName, BadNode, BadNumber, BadPlace, BadProgram
from hueward.errors import BadSize, BadSteps, BadTable, BadText, NoPart
from hueward.meaning import Run, source_row
from tests.samples import FULL, FULL_TEXT, PROGRAM_16, PROGRAM_21, STRANGE


class Order(unittest.TestCase):
    """The first wrong parameter from the left decides."""

    def test_program_comes_first(self):
        for call in (
            lambda bad: programs.part_names(bad),
            lambda bad: programs.nodes(bad, 7),
            lambda bad: programs.node_at(bad, 7),
            lambda bad: programs.depth_of(bad, 7),
            lambda bad: programs.with_node(bad, 7, 7),
            lambda bad: programs.runs_of(bad, 7),
            lambda bad: programs.ports_of(bad, 7),
            lambda bad: programs.renamed(bad, 7),
            lambda bad: programs.resized(bad, None),
            lambda bad: progtexts.program_text(bad),
            lambda bad: progtexts.spot_of(bad, 7),
            lambda bad: Run(bad, 7),
            lambda bad: source_row(bad, 7, None),
        ):
            for bad in STRANGE + (list(FULL), FULL[:3], FULL + (1,)):
                self.assertRaises(BadProgram, call, bad)

    def test_place_comes_ahead_of_node(self):
        self.assertRaises(BadPlace, programs.with_node, FULL, ("f", 2), 7)
        self.assertRaises(BadNode, programs.with_node, FULL, ("f", 1), 7)

    def test_inputs_come_ahead_of_steps(self):
        self.assertRaises(BadInputs, source_row, FULL, [10000], -1)
        self.assertRaises(BadSteps, source_row, FULL, [9999], -1)

    def test_length_comes_ahead_of_steps(self):
        run = Run(FULL, [])
        self.assertRaises(BadLength, run.reach, -1, -1)
        self.assertRaises(BadSteps, run.reach, 0, -1)

    def test_set_local(self):
        run = Run(FULL, [])
        with self.assertRaises(NoPart) as caught:
            run.set_local("h", "none", -1)
        self.assertEqual(caught.exception.part, "h")
        self.assertRaises(BadName, run.set_local, "g", "none", -1)
        self.assertRaises(BadNumber, run.set_local, "g", "z", -1)

    def test_set_cell(self):
        run = Run(FULL, [])
        self.assertRaises(BadArray, run.set_cell, "none", 3, 100)
        self.assertRaises(BadIndex, run.set_cell, "a", 3, 100)
        self.assertRaises(BadNumber, run.set_cell, "a", 2, 100)


class Parameters(unittest.TestCase):

    def test_inputs(self):
        for bad in (None, "", "12", {}, {1: 2}, 5, (True,), [False], [-1], [10000], [1, 2, None], ["1"], [0] * 401,
                    [[1]]):
            self.assertRaises(BadInputs, Run, FULL, bad)
            self.assertRaises(BadInputs, source_row, FULL, bad, 0)
        for good in ([], (), [0, 9999], (0, 9999), [1] * 400, (9999,) * 400):
            self.assertEqual(Run(FULL, good).left, list(good))

    def test_steps(self):
        for bad in (None, True, False, -1, 1000001, 10 ** 99, "1", [1], (1,), {}):
            self.assertRaises(BadSteps, source_row, PROGRAM_21, [], bad)
            self.assertRaises(BadSteps, Run(PROGRAM_21, []).go, bad)
            self.assertRaises(BadSteps, Run(PROGRAM_21, []).reach, 1, bad)
        self.assertEqual(source_row(PROGRAM_21, [], 0), [])
        self.assertEqual(source_row(PROGRAM_21, [], 1000000)[-1], ("stop",))

    def test_number(self):
        run = Run(FULL, [])
        for bad in (None, True, False, -1, 100, "1", [1], (1,), {}):
            self.assertRaises(BadNumber, run.set_local, "main", "n", bad)
            self.assertRaises(BadNumber, run.set_cell, "a", 0, bad)
        for good in (0, 99):
            run.set_local("main", "n", good)
            run.set_cell("a", 0, good)
            self.assertEqual(run.cells("a")[0], good)

    def test_part(self):
        for bad in STRANGE:
            for call in (programs.nodes, programs.runs_of, programs.ports_of):
                with self.assertRaises(NoPart) as caught:
                    call(FULL, bad)
                self.assertIs(caught.exception.part, bad)

    def test_by_name(self):
        self.assertEqual(programs.nodes(part="f", program=FULL), programs.nodes(FULL, "f"))
        self.assertEqual(programs.node_at(place=("f", 0), program=FULL), ("give", ("number", 7)))
        self.assertEqual(programs.depth_of(place=("f", 1), program=FULL), 2)
        changed = programs.with_node(node=("number", 8), place=("f", 1), program=FULL)
        self.assertEqual(programs.node_at(changed, ("f", 1)), ("number", 8))
        self.assertEqual(programs.runs_of(part="g", program=FULL), ("f",))
        self.assertEqual(programs.ports_of(part="main", program=FULL), (0, 5))
        self.assertEqual(programs.renamed(table={}, program=FULL), FULL)
        self.assertEqual(programs.resized(size=100, program=FULL), FULL)
        self.assertEqual(programs.part_names(program=FULL), ("f", "g", "main"))
        self.assertTrue(programs.is_program(value=FULL) and programs.is_name(value="x"))
        self.assertEqual(progtexts.program_text(program=FULL), FULL_TEXT)
        self.assertEqual(progtexts.program_of(text=FULL_TEXT), FULL)
        self.assertEqual(progtexts.completed(text=FULL_TEXT), FULL)
        self.assertEqual(progtexts.spot_of(place=("f", 1), program=FULL), (5, 8))
        run = Run(inputs=[3], program=FULL)
        run.go(steps=1)
        run.set_local(number=4, x="n", part="main")
        run.set_cell(number=9, index=2, array="a")
        self.assertTrue(run.reach(steps=5, length=1))
        self.assertEqual(run.cells(array="a"), [1, 2, 9])
        self.assertEqual(source_row(steps=1, inputs=[3], program=FULL), [("take", 3)])


class Values(unittest.TestCase):

    def test_what_is_passed_in_stays(self):
        inputs = [3, 1, 4]
        run = Run(PROGRAM_21, inputs)
        run.go(1)
        run.set_cell("a", 0, 0)
        self.assertEqual(inputs, [3, 1, 4])
        inputs.append(7)
        inputs[1] = 9
        self.assertEqual(run.left, [1, 4])
        table = {"a": "b", "b": "a"}
        programs.renamed(FULL, table)
        self.assertEqual(table, {"a": "b", "b": "a"})

    def test_programs_stay(self):
        before = copy.deepcopy(PROGRAM_21)
        run = Run(PROGRAM_21, [17])
        run.go(100)
        programs.with_node(PROGRAM_21, ("main", 0), ("stop",))
        self.assertEqual(PROGRAM_21, before)

    def test_returned_lists_are_new(self):
        run = Run(PROGRAM_21, [17, 4, 5])
        run.go(100)
        for look in (
            lambda: run.row,
            lambda: run.left,
            lambda: run.sources,
            lambda: run.cells("a"),
            lambda: programs.nodes(PROGRAM_21, "main"),
            lambda: source_row(PROGRAM_21, [17], 100),
        ):
            first = look()
            self.assertIs(first.__class__, list)
            kept = list(first)
            first.append("more")
            first[0] = "other"
            self.assertEqual(look(), kept)

    def test_lists_and_tuples_of_inputs_are_equal(self):
        for inputs in ([17, 3], (17, 3)):
            run = Run(PROGRAM_21, inputs)
            self.assertEqual(run.left, [17, 3])
            run.go(1)
            self.assertEqual((run.row, run.left), ([("take", 7)], [3]))
        self.assertEqual(source_row(PROGRAM_21, (17,), 100), source_row(PROGRAM_21, [17], 100))

    def test_lists_do_not_stand_for_tuples(self):
        self.assertRaises(BadPlace, programs.node_at, FULL, ["f", 0])
        self.assertRaises(BadPlace, programs.depth_of, FULL, ["f", 0])
        self.assertRaises(BadPlace, programs.with_node, FULL, ["f", 0], ("stop",))
        self.assertRaises(BadPlace, progtexts.spot_of, FULL, ["f", 0])
        self.assertRaises(BadNode, programs.with_node, FULL, ("f", 0), ["stop"])
        self.assertRaises(BadTable, programs.renamed, FULL, [("a", "b")])
        self.assertRaises(BadTable, programs.renamed, FULL, (("a", "b"),))
        self.assertFalse(programs.is_program(list(FULL)))

    def test_true_and_false_are_no_wholes(self):
        self.assertRaises(BadPlace, programs.node_at, FULL, ("f", False))
        self.assertRaises(BadPlace, programs.node_at, FULL, ("f", True))
        self.assertRaises(BadSize, programs.resized, (2, (), (), ()), True)
        self.assertRaises(BadLength, Run(FULL, []).reach, False, 0)
        self.assertRaises(BadIndex, Run(FULL, []).set_cell, "a", False, 1)
        self.assertFalse(programs.is_program((2, (), (), (("show", True, ("number", 0)),))))

    def test_no_result_is_none(self):
        run = Run(FULL, [])
        self.assertIsNone(run.go(1))
        self.assertIsNone(run.set_local("main", "n", 1))
        self.assertIsNone(run.set_cell("a", 1, 1))

    def test_whether_is_true_or_false(self):
        for value in STRANGE + (FULL, "abc"):
            self.assertIn(programs.is_name(value), (True, False))
            self.assertIs(programs.is_name(value).__class__, bool)
            self.assertIs(programs.is_program(value).__class__, bool)
        self.assertIs(Run(FULL, []).reach(0, 0), True)
        self.assertIs(Run(FULL, []).reach(1, 0), False)

    def test_equal_arguments_give_equal_results(self):
        for _ in range(2):
            self.assertEqual(progtexts.program_of(FULL_TEXT), FULL)
            self.assertEqual(progtexts.completed("size 3\nmain\n  x"), progtexts.completed("size 3\nmain\n  x"))
            self.assertEqual(source_row(PROGRAM_16, [1], 50), source_row(PROGRAM_16, [1], 50))

    def test_objects(self):
        run = Run(FULL, [])
        for other in STRANGE + (FULL, Run):
            self.assertFalse(run == other)
            self.assertTrue(run != other)
        with self.assertRaises(TypeError):
            iter(run)
        self.assertFalse(programs.is_name(run) or programs.is_program(run))
        self.assertRaises(BadProgram, Run, run, [])
        self.assertRaises(BadInputs, Run, FULL, run)
        self.assertRaises(BadText, progtexts.program_of, run)

    def test_errors_tell_their_fields(self):
        with self.assertRaises(NoPart) as caught:
            programs.nodes(FULL, ["f"])
        self.assertEqual(caught.exception.part, ["f"])
        with self.assertRaises(BadText) as caught:
            progtexts.program_of("size 10\n\nmine")
        self.assertEqual((caught.exception.line, caught.exception.column), (3, 1))

    def test_errors_leave_a_run_as_it_is(self):
        run = Run(PROGRAM_21, [17])
        run.go(3)
        before = (run.row, run.steps, run.place, run.cells("a"), run.left, run.sources)
        for call in (
            lambda: run.go(-1),
            lambda: run.reach(2, True),
            lambda: run.set_local("main", "x", 10),
            lambda: run.set_cell("a", 2, 1),
        ):
            self.assertRaises(ValueError, call)
        self.assertEqual((run.row, run.steps, run.place, run.cells("a"), run.left, run.sources), before)

    def test_modules_hold_no_state(self):
        first = meaning.Run(PROGRAM_21, [17])
        first.go(100)
        second = meaning.Run(PROGRAM_21, [17])
        self.assertEqual((second.row, second.steps, second.cells("a")), ([], 0, [3, 4]))


if __name__ == "__main__":
    unittest.main()
