"""Thresholds: [45] to [50]."""

import itertools
import unittest

from hueward.compiling import compiled
from hueward.errors import BadCode, BadHues, BadInputs, BadMost, BadSlots, BadSteps, BadStrikes, BadVotes, BadWish
from hueward.machine import Machine, first_parting, struck
from hueward.thresholds import defeat, even_votes, judged, plan, stall, struck_hues, suspects
from tests.coding import ALL_VOTES, CODE_30, CodeMaker, coded
from tests.compiling import HAND_MADE, made
from tests.plain_counts import judgement
from tests.samples import STRANGE

# Shows 7, goes on for ever with hue 0 alone as far as its slot tells, and stops if it tells 0.
CODE_3 = coded(
    (0, "set", 0, 7), (1, "set", 0, 7), (2, "set", 0, 7), (0, "offer", 0), (1, "offer", 0), (2, "offer", 0),
    ("show", 1, 3), (0, "offer", 0), ("turn", 6, 1), ("stop",), votes=(1, 2, 2),
)
ONE = coded((0, "offer", 0), ("show", 0, 1), (0, "offer", 1), ("turn", 0, 1), ("stop",), votes=(1,))


class StruckHues(unittest.TestCase):

    def test_ascending_and_each_once(self):
        strikes = [(0, 2, ("slot",), 1), (3, 0, ("pointer",), 1), (3, 2, ("register", 1), 1)]
        self.assertEqual(struck_hues(CODE_3, strikes), (0, 2))
        self.assertEqual(struck_hues(CODE_3, tuple(strikes)), (0, 2))
        self.assertEqual(struck_hues(CODE_3, []), ())
        self.assertEqual(struck_hues(CODE_3, [(1000000, 1, ("slot",), None)]), (1,))

    def test_errors(self):
        for bad in STRANGE:
            self.assertRaises(BadCode, struck_hues, bad, None)
        for bad, at in ((None, None), ([1], 0), ([(0, 0, ("slot",), 1), (0, 3, ("slot",), 1)], 1), ({}, None)):
            with self.assertRaises(BadStrikes) as caught:
                struck_hues(CODE_3, bad)
            self.assertEqual(caught.exception.at, at)


class Judged(unittest.TestCase):

    def test_each_word(self):
        slot = ("slot",)
        self.assertEqual(judged(CODE_3, [], [], 50), "same")
        self.assertEqual(judged(CODE_3, [], [(2, 1, ("register", 0), 3)], 50), "same")
        self.assertEqual(judged(CODE_3, [], [(6, 0, slot, 8), (6, 1, slot, 8)], 50), "wrong")
        self.assertEqual(judged(CODE_3, [], [(6, 0, slot, 8), (6, 1, slot, None)], 50), "caught")
        self.assertEqual(judged(CODE_30, [], [(2, 1, ("register", 0), 8)], 50), "caught")

    def test_wrong_at_an_index_comes_ahead_of_caught(self):
        # It shows 8 in place of 7, and is caught behind it.
        code = coded((0, "set", 0, 7), (0, "offer", 0), ("show", 0, 1), ("show", 0, 1), votes=(1,))
        self.assertEqual(judged(code, [], [(1, 0, ("register", 0), 8)], 50), "wrong")
        self.assertEqual(judged(code, [], [(2, 0, ("slot",), None)], 50), "caught")
        self.assertEqual(judged(code, [], [], 50), "same")

    def test_more_items_are_wrong_if_the_struck_run_is_over(self):
        loop = coded((0, "offer", 0), ("turn", 3, 1), ("goto", 0), ("take", 1, 1), ("stop",), votes=(1,))
        strike = [(0, 0, ("register", 0), 1)]
        self.assertEqual(judged(loop, [], strike, 3), "other")
        self.assertEqual(judged(loop, [], strike, 4), "wrong")
        gone = coded((0, "offer", 0), ("turn", 3, 1), ("goto", 0), ("take", 1, 1), votes=(1,))
        self.assertEqual(judged(gone, [], strike, 3), "other")
        self.assertEqual(judged(gone, [], strike, 4), "wrong")

    def test_a_lesser_row_that_stops_is_wrong(self):
        # The stop stands where the other one shows.
        code = coded((0, "offer", 0), ("turn", 3, 1), ("take", 1, 1), ("stop",), votes=(1,))
        self.assertEqual(judged(code, [], [(0, 0, ("register", 0), 1)], 50), "wrong")

    def test_still_running_is_other(self):
        code = coded((0, "offer", 0), ("turn", 0, 1), ("show", 0, 1), ("stop",), votes=(1,))
        self.assertEqual(judged(code, [], [(0, 0, ("register", 0), 1)], 50), "other")
        stops = coded((0, "offer", 0), ("turn", 0, 1), ("stop",), votes=(1,))
        self.assertEqual(judged(stops, [], [(0, 0, ("register", 0), 1)], 50), "other")

    def test_a_run_that_is_caught_without_a_strike(self):
        code = coded(("take", 0, 1), votes=(1,))
        self.assertEqual(judged(code, [], [], 5), "same")
        self.assertEqual(judged(code, [], [(1, 0, ("pointer",), 9)], 5), "same")
        self.assertEqual(judged(code, [], [(0, 0, ("pointer",), 9)], 5), "caught")
        self.assertEqual(judged(code, [], [(1, 0, ("pointer",), 0)], 5), "wrong")

    def test_beside_the_words_of_the_document(self):
        seen = {}
        for seed in range(800):
            maker = CodeMaker(seed)
            code = maker.code((1,)) if seed % 2 else maker.alike((1, 2))
            strikes = maker.strikes(code, maker.chance.randint(1, 4), 12)
            steps = maker.chance.randrange(40)
            one, other = struck(code, [1, 2], strikes, steps), struck(code, [1, 2], [], steps)
            word = judgement(one.row, one.state, other.row, other.state)
            self.assertEqual(judged(code, [1, 2], strikes, steps), word)
            seen[word] = seen.get(word, 0) + 1
        self.assertGreater(min(seen.values()), 5, seen)
        self.assertEqual(len(seen), 4)

    def test_errors_from_left_to_right(self):
        self.assertRaises(BadCode, judged, None, None, None, None)
        self.assertRaises(BadInputs, judged, CODE_3, None, None, None)
        self.assertRaises(BadStrikes, judged, CODE_3, [], None, None)
        for bad in (None, -1, 1000001, True, "1"):
            self.assertRaises(BadSteps, judged, CODE_3, [], [], bad)


class Exactly(unittest.TestCase):
    """[48]: just so many strikes."""

    def check(self, code, inputs, steps):
        """Both kinds of strikes do what is told, and none of them can be left out."""
        machine = Machine(code, inputs)
        rows = []
        for _ in range(steps):
            at, before = machine.address, machine.state
            machine.go(1)
            if before == "running" and machine.state != "caught" and code[2][at][0] in ("show", "turn"):
                rows.append((machine.steps - 1, code[2][at]))
        shows = [row for row in rows if row[1][0] == "show"]
        self.check_defeat(code, inputs, steps, shows)
        self.check_stall(code, inputs, steps, rows)
        return bool(shows)

    def check_defeat(self, code, inputs, steps, shows):
        found = defeat(code, inputs, steps)
        if not shows:
            self.assertIsNone(found)
            return
        step, cell = shows[0]
        many = code[0][cell[2] - 1]
        self.assertEqual([strike[:3] for strike in found], [(step, hue, ("slot",)) for hue in range(many)])
        right = struck(code, inputs, [], step + 1).row
        wrong = struck(code, inputs, found, step + 1).row
        self.assertEqual(wrong[:-1], right[:-1])
        self.assertEqual(wrong[-1][:2], right[-1][:2])
        self.assertNotEqual(wrong[-1], right[-1])
        self.assertEqual(judged(code, inputs, found, steps), "wrong")
        if first_parting(code, inputs, step + 1) is None:
            for at in range(many):
                fewer = struck(code, inputs, found[:at] + found[at + 1:], step + 1)
                self.assertTrue(fewer.state == "caught" or fewer.row == right)

    def check_stall(self, code, inputs, steps, rows):
        found = stall(code, inputs, steps)
        if not rows:
            self.assertIsNone(found)
            return
        step, cell = rows[0]
        many = cell[2] - code[0][cell[2] - 1] + 1
        self.assertEqual([strike[:3] for strike in found], [(step, hue, ("slot",)) for hue in range(many)])
        one = struck(code, inputs, found, steps)
        self.assertEqual((one.state, one.steps), ("caught", step + 1))
        if first_parting(code, inputs, step + 1) is None:
            for at in range(many):
                fewer = struck(code, inputs, found[:at] + found[at + 1:], step + 1)
                self.assertNotEqual(fewer.state, "caught")

    def test_random_codes(self):
        shown = 0
        for seed in range(700):
            maker = CodeMaker(seed)
            code = maker.alike() if seed % 2 else maker.code()
            shown += self.check(code, maker.inputs(), maker.chance.randrange(30))
        self.assertGreater(shown, 50)

    def test_compiled_codes(self):
        shown = 0
        for at, program in enumerate(HAND_MADE):
            code = made(program, ALL_VOTES[at % len(ALL_VOTES)])
            if code is not None:
                shown += self.check(code, [3, 1, 4], 900)
        self.assertGreater(shown, 10)

    def test_just_behind_the_steps(self):
        self.assertIsNone(defeat(CODE_30, [], 4))
        self.assertEqual([strike[:3] for strike in defeat(CODE_30, [], 5)], [(4, 0, ("slot",)), (4, 1, ("slot",))])
        self.assertIsNone(stall(CODE_30, [], 4))
        self.assertEqual([strike[:3] for strike in stall(CODE_30, [], 5)], [(4, 0, ("slot",))])
        self.assertIsNone(defeat(CODE_30, [], 0))
        self.assertIsNone(stall(CODE_30, [], 0))

    def test_a_caught_one_is_not_done(self):
        code = coded((0, "offer", 0), ("show", 0, 2), ("stop",))
        self.assertIsNone(defeat(code, [], 100))
        self.assertIsNone(stall(code, [], 100))
        turn = coded((0, "offer", 0), ("turn", 0, 2), ("stop",))
        self.assertIsNone(stall(turn, [], 100))

    def test_turns_stall_and_do_not_defeat(self):
        code = coded((0, "offer", 0), (1, "offer", 0), ("turn", 0, 2), ("stop",))
        self.assertIsNone(defeat(code, [], 100))
        self.assertEqual(len(stall(code, [], 100)), 1)
        self.check(code, [], 100)

    def test_lesser_widths_and_votes(self):
        self.check(CODE_3, [], 20)
        self.assertEqual((len(defeat(CODE_3, [], 20)), len(stall(CODE_3, [], 20))), (2, 2))
        offers = [(hue, "offer", 0) for hue in range(5)]
        for votes in ALL_VOTES:
            for width in range(1, len(votes) + 1):
                code = coded(*offers[:len(votes)], ("turn", 0, width), *offers[:len(votes)], ("show", 0, width),
                             votes=votes)
                self.check(code, [], 100)
                self.assertEqual(len(defeat(code, [], 100)), votes[width - 1])
                self.assertEqual(len(stall(code, [], 100)), width - votes[width - 1] + 1)

    def test_one_hue(self):
        self.check(ONE, [], 20)
        self.assertEqual((len(defeat(ONE, [], 20)), len(stall(ONE, [], 20))), (1, 1))

    def test_two_numbers(self):
        self.check(coded((0, "offer", 0), (1, "offer", 0), ("show", 0, 2), size=2), [], 20)

    def test_errors_from_left_to_right(self):
        for function in (defeat, stall):
            for bad in STRANGE:
                self.assertRaises(BadCode, function, bad, None, None)
            self.assertRaises(BadInputs, function, CODE_3, None, None)
            for bad in (None, -1, 1000001, False, [1]):
                self.assertRaises(BadSteps, function, CODE_3, [], bad)

    def test_the_example(self):
        """Two hues; three hues of which two must agree."""
        program = (10, (), (), (("show", 0, ("number", 3)),))
        for votes, wrong, caught in (((1, 2), 2, 1), ((1, 2, 2), 2, 2), ((1, 2, 3), 3, 1)):
            code = compiled(program, votes)
            self.assertEqual((len(defeat(code, [], 500)), len(stall(code, [], 500))), (wrong, caught))


class Plans(unittest.TestCase):

    def test_all_pairs(self):
        """Beside all counts and votes that there are."""
        for told, whole in itertools.product(range(5), repeat=2):
            found = None
            for votes in sorted(ALL_VOTES, key=lambda votes: (len(votes), votes[-1])):
                hues, need = len(votes), votes[-1]
                if found is None and max(told, whole) < need and whole <= hues - need:
                    found = (hues, need)
            self.assertEqual(plan(told, whole), found, (told, whole))

    def test_some(self):
        self.assertEqual(plan(0, 0), (1, 1))
        self.assertEqual(plan(1, 0), (2, 2))
        self.assertEqual(plan(1, 1), (3, 2))
        self.assertEqual(plan(2, 2), (5, 3))
        self.assertEqual(plan(4, 0), (5, 5))
        self.assertIsNone(plan(4, 1))
        self.assertIsNone(plan(3, 3))

    def test_errors(self):
        for bad in STRANGE + (5, 1.5):
            if bad.__class__ is int and 0 <= bad <= 4:
                continue
            self.assertRaises(BadWish, plan, bad, 0)
            self.assertRaises(BadWish, plan, 0, bad)


class EvenVotes(unittest.TestCase):

    def test_all(self):
        for hues in range(1, 6):
            for need in range(-1, 8):
                if need > hues or hues >= 2 * need:
                    self.assertRaises(BadVotes, even_votes, hues, need)
                    continue
                found = even_votes(hues, need)
                self.assertIn(found, ALL_VOTES)
                self.assertEqual(found[-1], need)
                for width in range(1, hues + 1):
                    self.assertEqual(found[width - 1], max(width // 2 + 1, width - hues + need))

    def test_some(self):
        self.assertEqual(even_votes(1, 1), (1,))
        self.assertEqual(even_votes(3, 2), (1, 2, 2))
        self.assertEqual(even_votes(5, 3), (1, 2, 2, 3, 3))
        self.assertEqual(even_votes(5, 4), (1, 2, 2, 3, 4))
        self.assertEqual(even_votes(5, 5), (1, 2, 3, 4, 5))

    def test_errors(self):
        for bad in STRANGE + (6, 1.0):
            if bad.__class__ is int and 1 <= bad <= 5:
                continue
            self.assertRaises(BadHues, even_votes, bad, None)
            self.assertRaises(BadVotes, even_votes, 5, bad)
        self.assertRaises(BadHues, even_votes, True, 1)
        self.assertRaises(BadVotes, even_votes, 1, True)
        self.assertRaises(BadVotes, even_votes, 2, 1)
        self.assertRaises(BadVotes, even_votes, 4, 2)


class Suspects(unittest.TestCase):

    def plain(self, slots, most):
        """Beside each set of hues."""
        found = None
        hues = range(len(slots))
        for many in range(min(most, len(slots)) + 1):
            for some in itertools.combinations(hues, many):
                others = [slots[hue] for hue in hues if hue not in some]
                if None not in others and len(set(others)) <= 1:
                    found = set(some) if found is None else found & set(some)
        return None if found is None else tuple(sorted(found))

    def test_beside_all_sets(self):
        for many in range(1, 6):
            for slots in itertools.product((None, 3, 4, -1)[:3 + (many < 4)], repeat=many):
                for most in range(6):
                    self.assertEqual(suspects(list(slots), most), self.plain(slots, most), (slots, most))

    def test_the_example(self):
        self.assertEqual(suspects([3, 3, 4], 1), (2,))
        self.assertEqual(suspects([3, 4], 1), ())
        self.assertIsNone(suspects([3, 4], 0))

    def test_some(self):
        self.assertEqual(suspects([3, 3, 3], 0), ())
        self.assertEqual(suspects((3, None, 3), 1), (1,))
        self.assertEqual(suspects([None], 1), (0,))
        self.assertIsNone(suspects([None], 0))
        self.assertEqual(suspects([None, None], 2), (0, 1))
        self.assertEqual(suspects([3, None], 2), (1,))
        self.assertEqual(suspects([3, 4], 2), ())
        self.assertEqual(suspects([10 ** 99, 10 ** 99, -7], 1), (2,))

    def test_errors_from_left_to_right(self):
        for bad in STRANGE + ([True], [1, "1"], [1] * 6, [[1]], [1.0]):
            self.assertRaises(BadSlots, suspects, bad, None)
        for bad in STRANGE + (6, -1):
            if bad.__class__ is int and 0 <= bad <= 5:
                continue
            self.assertRaises(BadMost, suspects, [1], bad)

    def test_what_it_tells_was_struck(self):
        told = 0
        for seed in range(600):
            maker = CodeMaker(seed)
            code = maker.alike(maker.chance.choice(((1, 2), (1, 2, 2), (1, 2, 3), (1, 2, 2, 3), (1, 2, 2, 3, 4))))
            need = code[0][-1]
            hues = maker.chance.sample(range(len(code[0])), maker.chance.randint(1, need - 1))
            step = maker.chance.randrange(8)
            strikes = [(step, hue, ("register", at), maker.number()) for hue in hues for at in range(3)]
            one = struck(code, [], strikes, 60)
            if one.state != "caught" or first_parting(code, [], 60) is not None:
                continue
            at = max(one.pointers, key=one.pointers.count)
            if one.pointers.count(at) >= need and at < len(code[2]) and code[2][at][0] in ("show", "turn"):
                found = suspects(one.slots, len(hues))
                self.assertIsNotNone(found)
                self.assertLessEqual(set(found), set(hues))
                told += len(found) > 0
        self.assertGreater(told, 10)


if __name__ == "__main__":
    unittest.main()
