"""What holds for all functions of widths, compiling and papers: [3], [4], [5], [10]."""

import copy
import unittest

from hueward import compiling, papermaking, papers, widths
from hueward.errors import BadCode, BadHue, BadHues, BadInputs, BadOther, BadPaper, BadProgram, BadSteps, BadStruck
from hueward.errors import BadVotes, BadWidths, BadWishes, TooLarge
from hueward.flows import things
from hueward.machine import Machine
from hueward.meaning import Run
from tests.coding import CODE_30, coded
from tests.compiling import LOOPS
from tests.papering import CODE_44, PAPER_44
from tests.samples import FULL, PROGRAM_21, STRANGE

WIDE = {thing: 2 for thing in things(PROGRAM_21)}
ONE = coded(("take", 0, 1), (0, "offer", 0), ("show", 0, 1), ("goto", 0), votes=(1,))


class Order(unittest.TestCase):
    """The first wrong parameter from the left decides."""

    def test_program_comes_first(self):
        for call in (
            lambda bad: widths.first_narrow(bad, None),
            lambda bad: widths.is_fit(bad, None, None),
            lambda bad: widths.least_widths(bad, None, None),
            lambda bad: widths.settled_widths(bad, None),
            lambda bad: widths.safe_things(bad, None, None, None),
            lambda bad: widths.is_whole(bad, None, None, None),
            lambda bad: compiling.compiled(bad, None, 7),
        ):
            for bad in STRANGE + (list(FULL), FULL[:3], FULL + (1,), CODE_30):
                self.assertRaises(BadProgram, call, bad)

    def test_code_comes_first(self):
        for call in (
            lambda bad: compiling.widened(bad, None),
            lambda bad: compiling.narrowed(bad, None),
            lambda bad: compiling.own_steps(bad, None, None),
            lambda bad: papers.joints(bad),
            lambda bad: papers.is_paper(bad, None),
            lambda bad: papers.doubts(bad, None),
            lambda bad: papers.is_shown(bad, None),
            lambda bad: papermaking.made_paper(bad),
            lambda bad: papermaking.joined(bad, None),
        ):
            for bad in STRANGE + (list(CODE_30), CODE_30[:3], FULL):
                self.assertRaises(BadCode, call, bad)

    def test_from_left_to_right(self):
        large = coded(*[(0, "offer", 0)] * 4000, votes=(1,))
        cases = (
            (BadHues, lambda: widths.least_widths(FULL, 0, None)),
            (BadWishes, lambda: widths.least_widths(FULL, 1, None)),
            (BadHues, lambda: widths.is_fit(FULL, 6, None)),
            (BadVotes, lambda: widths.safe_things(FULL, None, None, None)),
            (BadWidths, lambda: widths.safe_things(FULL, (1,), None, None)),
            (BadStruck, lambda: widths.safe_things(PROGRAM_21, (1, 2), WIDE, None)),
            (BadVotes, lambda: widths.is_whole(FULL, None, None, None)),
            (BadWidths, lambda: widths.is_whole(FULL, (1,), None, None)),
            (BadStruck, lambda: widths.is_whole(PROGRAM_21, (1, 2), WIDE, None)),
            (BadVotes, lambda: compiling.compiled(FULL, None, 7)),
            (BadWidths, lambda: compiling.compiled(FULL, (1,), 7)),
            (BadVotes, lambda: compiling.widened(large, None)),
            (TooLarge, lambda: compiling.widened(large, (1, 2))),
            (BadHue, lambda: compiling.narrowed(CODE_30, 2)),
            (BadInputs, lambda: compiling.own_steps(CODE_30, None, None)),
            (BadSteps, lambda: compiling.own_steps(CODE_30, [], None)),
            (BadPaper, lambda: papers.doubts(CODE_30, None)),
            (BadPaper, lambda: papers.is_shown(CODE_30, None)),
            (BadOther, lambda: papermaking.joined(CODE_30, None)),
        )
        for error, call in cases:
            self.assertRaises(error, call)


class Parameters(unittest.TestCase):

    def test_by_name(self):
        self.assertIsNone(widths.first_narrow(widths=WIDE, program=PROGRAM_21))
        self.assertTrue(widths.is_fit(value=WIDE, hues=2, program=PROGRAM_21))
        wide = widths.least_widths(wishes={2: 2, "takes": 2, "loops": 2}, hues=2, program=PROGRAM_21)
        self.assertEqual(wide[("takes",)], 2)
        self.assertEqual(widths.settled_widths(widths=WIDE, program=PROGRAM_21), [2])
        self.assertEqual(widths.safe_things(struck=[0], widths=WIDE, votes=(1, 2), program=PROGRAM_21), list(WIDE))
        self.assertFalse(widths.is_whole(struck=[0], widths=WIDE, votes=(1, 2), program=PROGRAM_21))
        code = compiling.compiled(widths=WIDE, votes=(1, 2), program=PROGRAM_21)
        self.assertEqual(code, compiling.compiled(PROGRAM_21, (1, 2)))
        self.assertEqual(compiling.narrowed(hue=1, code=compiling.widened(votes=(1, 2), code=ONE)), ONE)
        self.assertEqual(compiling.own_steps(steps=3, inputs=[], code=ONE), (1, 2))
        self.assertEqual(papers.joints(code=CODE_44), [0])
        self.assertTrue(papers.is_paper(value=PAPER_44, code=CODE_44))
        self.assertEqual(papers.doubts(paper=PAPER_44, code=CODE_44), [])
        self.assertTrue(papers.is_shown(paper=PAPER_44, code=CODE_44))
        self.assertEqual(papermaking.made_paper(code=CODE_44), PAPER_44)
        self.assertEqual(papermaking.joined(other=ONE, code=ONE), papermaking.joined(ONE, ONE))


class Values(unittest.TestCase):

    def test_what_is_passed_in_stays(self):
        kept = (copy.deepcopy(WIDE), copy.deepcopy(PAPER_44), copy.deepcopy(CODE_44), copy.deepcopy(LOOPS))
        struck = [0, 1]
        wishes = {0: 2, "loops": 1}
        widths.least_widths(LOOPS, 3, wishes)
        widths.safe_things(PROGRAM_21, (1, 2), WIDE, struck)
        widths.is_whole(PROGRAM_21, (1, 2), WIDE, struck)
        compiling.compiled(PROGRAM_21, (1, 2), WIDE)
        compiling.compiled(LOOPS, (1, 2))
        papers.doubts(CODE_44, PAPER_44)
        papermaking.made_paper(CODE_44)
        papermaking.joined(CODE_44, CODE_44)
        self.assertEqual((WIDE, PAPER_44, CODE_44, LOOPS), kept)
        self.assertEqual((struck, wishes), ([0, 1], {0: 2, "loops": 1}))

    def test_lists_and_tuples_are_equal(self):
        for struck in ([0, 1], (0, 1)):
            self.assertEqual(widths.safe_things(PROGRAM_21, (1, 2), WIDE, struck), [])
            self.assertFalse(widths.is_whole(PROGRAM_21, (1, 2), WIDE, struck))
        told = {0: tuple(PAPER_44[0])}
        self.assertTrue(papers.is_paper(CODE_44, told))
        self.assertEqual(papers.doubts(CODE_44, told), [])

    def test_returned_lists_and_dicts_are_new(self):
        for call, kind in (
            (lambda: widths.least_widths(PROGRAM_21, 2, {}), dict),
            (lambda: papermaking.made_paper(CODE_44), dict),
            (lambda: widths.settled_widths(PROGRAM_21, WIDE), list),
            (lambda: widths.safe_things(PROGRAM_21, (1, 2), WIDE, []), list),
            (lambda: papers.joints(CODE_44), list),
            (lambda: papers.doubts(CODE_44, {0: [(1, ((0, 0),))]}), list),
        ):
            first = call()
            self.assertIs(first.__class__, kind)
            kept = copy.deepcopy(first)
            first.clear()
            self.assertEqual(call(), kept)

    def test_whether_is_true_or_false(self):
        for value in STRANGE + (WIDE, PAPER_44):
            self.assertIs(widths.is_fit(PROGRAM_21, 2, value).__class__, bool)
            self.assertIs(papers.is_paper(CODE_44, value).__class__, bool)
        self.assertIs(papers.is_shown(CODE_44, PAPER_44), True)
        self.assertIs(papers.is_shown(CODE_44, {0: [(1, ((0, 0),))]}), False)
        self.assertIs(widths.is_whole(PROGRAM_21, (1, 2), WIDE, []), True)

    def test_objects_are_no_values(self):
        for other in (Machine(CODE_30, []), Run(FULL, [])):
            self.assertFalse(widths.is_fit(PROGRAM_21, 2, other) or widths.is_fit(PROGRAM_21, 2, {other: 2}))
            self.assertFalse(papers.is_paper(CODE_44, other) or papers.is_paper(CODE_44, {0: other}))
            self.assertFalse(papers.is_paper(CODE_44, {0: [other]}) or papers.is_paper(CODE_44, {0: [], other: []}))
            self.assertRaises(BadProgram, compiling.compiled, other, (1,))
            self.assertRaises(BadVotes, compiling.compiled, FULL, other)
            self.assertRaises(BadWidths, compiling.compiled, FULL, (1,), other)
            self.assertRaises(BadCode, compiling.widened, other, (1,))
            self.assertRaises(BadPaper, papers.doubts, CODE_44, other)
            self.assertRaises(BadOther, papermaking.joined, CODE_44, other)
            self.assertRaises(BadWishes, widths.least_widths, FULL, 2, other)
            self.assertRaises(BadWishes, widths.least_widths, FULL, 2, {other: 1})
            self.assertRaises(BadStruck, widths.is_whole, PROGRAM_21, (1, 2), WIDE, other)

    def test_equal_arguments_give_equal_results(self):
        for _ in range(2):
            self.assertEqual(compiling.compiled(LOOPS, (1, 2)), compiling.compiled(LOOPS, (1, 2)))
            self.assertEqual(papermaking.made_paper(CODE_44), PAPER_44)
            self.assertEqual(list(papermaking.made_paper(CODE_44)), [0])


if __name__ == "__main__":
    unittest.main()
