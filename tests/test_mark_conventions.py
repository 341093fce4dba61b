"""What holds for all functions of thresholds, marks, their places and counts: [3], [4], [5], [10]."""

import copy
import unittest

from hueward import counts, markplaces, marks, thresholds
from hueward.errors import BadCheckpoint, BadCode, BadHue, BadInputs, BadLabels, BadMany, BadMost, BadPlace, BadSlots
from hueward.errors import BadStrikes, BadWish, HueError
from hueward.machine import Machine
from hueward.marks import Kept
from hueward.meaning import Run
from tests.coding import CODE_30
from tests.samples import FULL
from tests.test_counts import CODE_71
from tests.test_markplaces import CODE_58, EVEN
from tests.test_marks import CODE_53, LOOP

STRIKES = [(2, 1, ("register", 0), 8)]
POINT = (0, (0,) * 8, (), (1, 2))


class Parameters(unittest.TestCase):

    def test_by_name(self):
        self.assertEqual(thresholds.struck_hues(strikes=STRIKES, code=CODE_30), (1,))
        self.assertEqual(thresholds.judged(steps=9, strikes=STRIKES, inputs=[], code=CODE_30), "caught")
        self.assertEqual(len(thresholds.defeat(steps=9, inputs=[], code=CODE_30)), 2)
        self.assertEqual(len(thresholds.stall(steps=9, inputs=[], code=CODE_30)), 1)
        self.assertEqual(thresholds.plan(whole=0, told=1), (2, 2))
        self.assertEqual(thresholds.even_votes(need=2, hues=3), (1, 2, 2))
        self.assertEqual(thresholds.suspects(most=1, slots=[3, 3, 4]), (2,))
        kept = Kept(strikes=STRIKES, inputs=[], code=CODE_53)
        kept.strike(new=1, place=("slot",), hue=0)
        kept.go(steps=9)
        self.assertEqual(kept.legs, [(5, (0, 1), "back")])
        self.assertTrue(marks.is_checkpoint(value=POINT, code=CODE_53))
        self.assertEqual(marks.resumed(checkpoint=POINT, code=CODE_53).left, [1, 2])
        self.assertEqual(marks.most_again(steps=9, many=1, inputs=[], code=CODE_53), 6)
        self.assertEqual(len(marks.slowest(steps=9, many=1, inputs=[], code=CODE_53)), 1)
        self.assertTrue(markplaces.is_even(code=CODE_58))
        self.assertIsNone(markplaces.longest_leg(code=CODE_58))
        self.assertEqual(markplaces.with_marks(some=[], code=CODE_58), CODE_58)
        self.assertEqual(markplaces.fewest_marks(length=4, code=CODE_58), [0])
        spans = counts.spans(place=("slot",), hue=0, steps=6, inputs=[], code=CODE_71)
        self.assertEqual(spans, counts.spans(CODE_71, [], 6, 0, ("slot",)))
        ranges = counts.value_ranges(at=3, place=("slot",), hue=0, steps=6, inputs=[], code=CODE_71)
        self.assertEqual(ranges, counts.value_ranges(CODE_71, [], 6, 0, ("slot",), 3))
        self.assertEqual(counts.tally(hue=1, steps=6, inputs=[], code=CODE_71)["caught"], 40)
        self.assertEqual(counts.tally(steps=6, inputs=[], code=CODE_71)["caught"], 82)
        self.assertEqual(counts.tally(CODE_71, [], 6, None)["caught"], 82)
        self.assertEqual(counts.tally_at(place=("slot",), hue=0, steps=6, inputs=[], code=CODE_71)["caught"], 4)
        self.assertEqual(counts.worst_strike(steps=6, inputs=[], code=CODE_71)[0], "caught")
        self.assertEqual(counts.longest_delay(steps=6, inputs=[], code=CODE_71)[0], 4)


class Values(unittest.TestCase):

    def test_lists_and_tuples_are_equal(self):
        for listed in (list, tuple):
            inputs, strikes = listed([3, 4]), listed(STRIKES)
            self.assertEqual(thresholds.struck_hues(CODE_30, strikes), (1,))
            self.assertEqual(thresholds.judged(CODE_30, inputs, strikes, 9), "caught")
            self.assertEqual(thresholds.suspects(listed([3, 3, 4]), 1), (2,))
            self.assertEqual(Kept(CODE_53, inputs, strikes).left, [3, 4])
            self.assertEqual(markplaces.with_marks(CODE_58, listed([0, 1])), markplaces.with_marks(CODE_58, [0, 1]))
            self.assertEqual(counts.tally(CODE_71, inputs, 6), counts.tally(CODE_71, [3, 4], 6))

    def test_what_is_passed_in_stays(self):
        inputs, strikes, slots, some = [3, 4], list(STRIKES), [3, None], [0, 1]
        before = copy.deepcopy((inputs, strikes, slots, some))
        thresholds.judged(CODE_30, inputs, strikes, 9)
        thresholds.suspects(slots, 2)
        Kept(LOOP, inputs).go(50)
        Kept(CODE_53, inputs, strikes).go(50)
        marks.slowest(CODE_53, inputs, 4, 50)
        markplaces.with_marks(CODE_58, some)
        counts.tally(CODE_71, inputs, 6)
        counts.worst_strike(CODE_71, inputs, 6)
        self.assertEqual((inputs, strikes, slots, some), before)

    def test_returned_lists_and_dicts_are_new(self):
        for call, kind in (
            (lambda: thresholds.defeat(CODE_30, [], 9), list),
            (lambda: thresholds.stall(CODE_30, [], 9), list),
            (lambda: marks.slowest(CODE_53, [], 3, 50), list),
            (lambda: markplaces.fewest_marks(CODE_58, 3), list),
            (lambda: counts.spans(CODE_71, [], 6, 0, ("slot",)), list),
            (lambda: counts.value_ranges(CODE_71, [], 6, 0, ("slot",), 3), list),
            (lambda: counts.tally(CODE_71, [], 6), dict),
            (lambda: counts.tally_at(CODE_71, [], 6, 1, ("slot",)), dict),
        ):
            first = call()
            self.assertIs(first.__class__, kind)
            kept = copy.deepcopy(first)
            first.clear()
            self.assertEqual(call(), kept)

    def test_whether_is_true_or_false(self):
        self.assertIs(marks.is_checkpoint(CODE_53, POINT), True)
        self.assertIs(marks.is_checkpoint(CODE_53, None), False)
        self.assertIs(markplaces.is_even(EVEN), True)
        self.assertIs(markplaces.is_even(CODE_71[:2] + (CODE_71[2][1:],) + CODE_71[3:]), False)

    def test_objects_are_no_values(self):
        for other in (Machine(CODE_30, []), Run(FULL, []), Kept(CODE_53, [])):
            for error, call in (
                (BadCode, lambda: thresholds.struck_hues(other, [])),
                (BadStrikes, lambda: thresholds.struck_hues(CODE_30, other)),
                (BadStrikes, lambda: thresholds.struck_hues(CODE_30, [other])),
                (BadWish, lambda: thresholds.plan(other, 0)),
                (BadSlots, lambda: thresholds.suspects(other, 0)),
                (BadSlots, lambda: thresholds.suspects([other], 0)),
                (BadMost, lambda: thresholds.suspects([1], other)),
                (BadInputs, lambda: Kept(CODE_53, other)),
                (BadCheckpoint, lambda: marks.resumed(CODE_53, other)),
                (BadCheckpoint, lambda: marks.resumed(CODE_53, (0, (0,) * 7 + (other,), (), ()))),
                (BadMany, lambda: marks.slowest(CODE_53, [], other, 1)),
                (BadLabels, lambda: markplaces.with_marks(CODE_58, other)),
                (BadLabels, lambda: markplaces.with_marks(CODE_58, [other])),
                (BadHue, lambda: counts.tally(CODE_71, [], 6, other)),
                (BadPlace, lambda: counts.tally_at(CODE_71, [], 6, 0, other)),
                (BadPlace, lambda: counts.tally_at(CODE_71, [], 6, 0, ("register", other))),
            ):
                self.assertRaises(error, call)
                self.assertRaises(HueError, call)
            self.assertFalse(marks.is_checkpoint(CODE_53, other))

    def test_errors_leave_a_kept_as_it_is(self):
        kept = Kept(LOOP, [3, 4], [(2, 1, ("register", 0), 8)])
        kept.go(4)
        before = (kept.out, kept.held, kept.state, kept.steps, kept.left, kept.kept, kept.legs, kept.machine().moment())
        for call in (
            lambda: kept.go(-1), lambda: kept.strike(3, ("slot",), 1), lambda: kept.strike(0, ("slot", 0), 1),
            lambda: kept.strike(0, ("slot",), 10), lambda: kept.strike(0, ("code", 1), (1, "set", 0, 1)),
        ):
            self.assertRaises(HueError, call)
        after = (kept.out, kept.held, kept.state, kept.steps, kept.left, kept.kept, kept.legs, kept.machine().moment())
        self.assertEqual(after, before)

    def test_equal_arguments_give_equal_results(self):
        for _ in range(2):
            self.assertEqual(counts.tally(CODE_71, [], 6), counts.tally(CODE_71, [], 6))
            self.assertEqual(markplaces.fewest_marks(CODE_58, 3), markplaces.fewest_marks(CODE_58, 3))
            self.assertEqual(marks.slowest(CODE_53, [], 3, 50), marks.slowest(CODE_53, [], 3, 50))
            self.assertEqual(thresholds.defeat(CODE_30, [], 9), thresholds.defeat(CODE_30, [], 9))


if __name__ == "__main__":
    unittest.main()
