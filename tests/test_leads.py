"""Sights, and runs that are led on: [79] and [80]."""

import unittest

from hueward.bench import Bench
from hueward.errors import BadMost, Full, NoPaper, NotCaught, Unclear
from hueward.machine import Machine, machine_row
from hueward.papermaking import made_paper
from hueward.thresholds import suspects
from tests.coding import CODE_30, CodeMaker, coded
from tests.compiling import HAND_MADE, made
from tests.papering import paper_codes
from tests.samples import STRANGE
from tests.test_marks import CODE_53, LOOP

PAPER_30 = made_paper(CODE_30)
# Five hues that must all agree, and one number to show for ever.
FIVE = coded(*[(hue, "offer", 0) for hue in range(5)], ("show", 0, 5), ("goto", 0), votes=(1, 2, 3, 4, 5), bank=(4, 7))
MARK = coded(("mark",), ("goto", 0), votes=(1, 2, 3), bank=(5, 6))


def caught_bench(code, strikes, steps, inputs=()):
    """A bench that is struck and goes on until it is caught."""
    bench = Bench(code, made_paper(code), inputs)
    for step, hue, place, new in strikes:
        bench.go(step - bench.steps)
        bench.strike(hue, place, new)
    bench.go(steps)
    return bench


class Sights(unittest.TestCase):

    def test_pointers(self):
        bench = caught_bench(FIVE, [(2, 1, ("pointer",), 9999), (2, 4, ("pointer",), 1)], 10)
        self.assertEqual(bench.sights(), ("pointers", (2, 9999, 2, 2, 1)))
        self.assertEqual(bench.fits(1), [])
        self.assertIsNone(bench.blames(1))
        self.assertEqual((bench.fits(2), bench.blames(2)), ([2], (1, 4)))
        self.assertEqual((bench.fits(3), bench.fits(4), bench.blames(4)), ([2], [1, 2], (1,)))

    def test_pointers_that_agree_on_what_is_no_address(self):
        bench = caught_bench(CODE_30, [(2, 0, ("pointer",), 6), (2, 1, ("pointer",), 6)], 10)
        self.assertEqual(bench.sights(), ("pointers", (6, 6)))
        self.assertEqual((bench.fits(5), bench.blames(5)), ([], None))
        bench = caught_bench(CODE_30, [(2, 0, ("pointer",), 5), (2, 1, ("pointer",), 6)], 10)
        self.assertEqual((bench.fits(1), bench.blames(1)), ([5], (1,)))

    def test_slots(self):
        bench = caught_bench(FIVE, [(5, 1, ("slot",), None), (5, 4, ("slot",), 3)], 10)
        self.assertEqual(bench.sights(), ("slots", (0, None, 0, 0, 3)))
        self.assertEqual((bench.fits(2), bench.blames(2)), ([0], (1, 4)))
        self.assertEqual((bench.fits(4), bench.blames(4)), ([0, 3], (1,)))
        self.assertEqual((bench.fits(5), bench.fits(0)), ([0, 3], []))

    def test_slots_below_the_width(self):
        code = coded((0, "offer", 0), (1, "offer", 0), ("show", 0, 2), ("stop",), votes=(1, 2, 3))
        bench = caught_bench(code, [(2, 0, ("slot",), 3)], 10)
        self.assertEqual(bench.sights(), ("slots", (3, 0)))
        self.assertEqual((bench.fits(0), bench.fits(1), bench.blames(1)), ([], [0, 3], ()))
        turn = coded((0, "offer", 0), ("turn", 0, 1), ("stop",), votes=(1, 2, 3))
        bench = caught_bench(turn, [(1, 0, ("slot",), None)], 10)
        self.assertEqual((bench.sights(), bench.fits(5), bench.blames(5)), (("slots", (None,)), [], None))

    def test_states(self):
        bench = caught_bench(MARK, [(2, 1, ("register", 3), 1), (2, 2, ("cell", 1), 2), (2, 2, ("cell", 0), 1)], 10)
        zero = (0,) * 8
        one, two, three = (zero, (5, 6)), ((0, 0, 0, 1, 0, 0, 0, 0), (5, 6)), (zero, (1, 2))
        self.assertEqual(bench.sights(), ("states", (one, two, three)))
        self.assertEqual((bench.fits(1), bench.fits(2)), ([], [three, one, two]))
        self.assertEqual((bench.blames(2), bench.blames(0)), ((), None))
        bench = caught_bench(MARK, [(2, 1, ("register", 3), 1)], 10)
        self.assertEqual((bench.fits(1), bench.blames(1)), ([one], (1,)))

    def test_errors_in_their_sequence(self):
        bench = Bench(CODE_30, PAPER_30, [])
        for _ in range(2):
            self.assertRaises(NotCaught, bench.sights)
            for call in (bench.fits, bench.blames, bench.lead):
                for bad in STRANGE + (6, -1):
                    if bad.__class__ is not int or not 0 <= bad <= 5:
                        self.assertRaises(BadMost, call, bad)
                self.assertRaises(BadMost, call, True)
                self.assertRaises(NotCaught, call, 0)
                self.assertRaises(NotCaught, call, 5)
            bench.go(100)
        self.assertEqual(len(bench), 2)

    def test_lists_are_new(self):
        bench = caught_bench(FIVE, [(5, 1, ("slot",), None)], 10)
        bench.fits(1).clear()
        self.assertEqual(bench.fits(1), [0])

    def test_like_suspects(self):
        """Without None, what is blamed for a great width is what suspects tells."""
        for seed in range(200):
            chance = CodeMaker(seed).chance
            slots = [chance.choice((None, 0, 1, 1)) for _ in range(5)]
            bench = caught_bench(FIVE, [(5, hue, ("slot",), slot) for hue, slot in enumerate(slots)], 10)
            if bench.state == "caught":
                for most in range(5):
                    found = bench.blames(most)
                    self.assertEqual(found, suspects(slots, most))


class Leads(unittest.TestCase):

    def test_pointers(self):
        bench = caught_bench(FIVE, [(2, 1, ("pointer",), 9999), (2, 4, ("pointer",), 1)], 10)
        before = (bench.row, bench.left)
        self.assertIsNone(bench.lead(2))
        self.assertEqual((bench.state, bench.steps, bench.row, bench.left), ("running", 2) + before)
        self.assertEqual(bench.strikes[2:], [(2, 1, ("pointer",), 2), (2, 4, ("pointer",), 2)])
        self.assertEqual((bench.struck, bench.log[-1]), ((1, 4), ("lead", 2)))
        bench.go(4)
        self.assertEqual(bench.row, [("show", 0, 0)])

    def test_slots(self):
        bench = caught_bench(FIVE, [(5, 1, ("slot",), None), (5, 4, ("slot",), 3)], 10)
        self.assertEqual((bench.state, bench.steps), ("caught", 6))
        bench.lead(2)
        self.assertEqual((bench.state, bench.steps), ("running", 5))
        self.assertEqual(bench.strikes[2:], [(5, 1, ("slot",), 0), (5, 4, ("slot",), 0)])
        bench.go(1)
        self.assertEqual(bench.row, [("show", 0, 0)])
        self.assertEqual(bench.verdict(), "same")

    def test_states(self):
        bench = caught_bench(MARK, [(2, 1, ("register", 3), 1), (2, 1, ("register", 0), 2), (2, 1, ("cell", 1), 2),
                                    (2, 1, ("cell", 0), 7)], 10)
        bench.lead(1)
        self.assertEqual(bench.strikes[4:], [(2, 1, ("register", 0), 0), (2, 1, ("register", 3), 0),
                                             (2, 1, ("cell", 0), 5), (2, 1, ("cell", 1), 6)])
        bench.go(1)
        self.assertEqual((bench.state, bench.steps), ("running", 3))

    def test_the_other_hues_stay(self):
        code = coded((0, "offer", 0), (1, "offer", 0), ("show", 0, 2), ("goto", 0), votes=(1, 2, 3))
        bench = caught_bench(code, [(2, 2, ("slot",), 7), (2, 1, ("slot",), None)], 10)
        bench.lead(1)
        self.assertEqual(bench.moment()[0][2][3], 7)
        self.assertEqual([hue[3] for hue in bench.moment()[0]], [0, 0, 7])

    def test_struck_by_strike_alone(self):
        bench = caught_bench(FIVE, [(5, 1, ("slot",), 3), (5, 2, ("slot",), 3), (5, 3, ("slot",), 3)], 10)
        self.assertEqual(bench.fits(2), [3])
        bench.lead(2)
        self.assertEqual([strike[1] for strike in bench.strikes], [1, 2, 3, 0, 4])
        self.assertEqual(bench.struck, (1, 2, 3))
        bench.go(1)
        self.assertEqual(bench.verdict(), "wrong")

    def test_unclear(self):
        for strikes, most, many in (
            ([(5, 1, ("slot",), 3), (5, 2, ("slot",), 3)], 1, 0), ([(5, 1, ("slot",), 3), (5, 2, ("slot",), 3)], 3, 2),
            ([(5, 1, ("slot",), 3), (5, 2, ("slot",), 4)], 4, 3), ([(5, hue, ("slot",), None) for hue in range(5)], 5, 0),
            ([(2, hue, ("pointer",), 3000) for hue in range(5)], 5, 0),
        ):
            bench = caught_bench(FIVE, strikes, 10)
            before = (bench.state, bench.steps, bench.strikes, bench.log, bench.moment())
            with self.assertRaises(Unclear) as caught:
                bench.lead(most)
            self.assertEqual(caught.exception.many, many)
            self.assertEqual((bench.state, bench.steps, bench.strikes, bench.log, bench.moment()), before)

    def test_full(self):
        for stand, full in ((398, False), (399, True), (400, True)):
            bench = Bench(FIVE, made_paper(FIVE), [])
            for at in range(stand - 2):
                bench.strike(at % 5, ("register", 3), 1)
            bench.go(5)
            bench.strike(0, ("slot",), None)
            bench.strike(1, ("slot",), 5)
            bench.go(1)
            if full:
                self.assertRaises(Full, bench.lead, 2)
                self.assertEqual((bench.state, len(bench.strikes), len(bench)), ("caught", stand, stand + 2))
                self.assertRaises(Unclear, bench.lead, 1)
            else:
                bench.lead(2)
                self.assertEqual((bench.state, len(bench.strikes)), ("running", 400))

    def test_again_and_again(self):
        bench = Bench(FIVE, made_paper(FIVE), [])
        bench.go(5)
        for at in range(10):
            bench.strike(at % 2, ("slot",), 3)
            bench.go(1)
            self.assertEqual(bench.state, "caught")
            bench.lead(1)
            bench.go(1)
            self.assertEqual(bench.row, [("show", 0, 0)] * (at + 1))
            self.assertEqual((bench.steps, bench.verdict()), (7 * at + 6, "same"))
            bench.go(6)
        self.assertEqual((len(bench.strikes), bench.struck), (20, (0, 1)))


def shown_codes(many):
    """Codes of several hues with papers, and these."""
    found = []
    for code in paper_codes(many) + [CODE_53, LOOP, FIVE, MARK]:
        if len(code[0]) > 1:
            try:
                found.append((code, made_paper(code)))
            except NoPaper:
                pass
    return found


def programs_codes():
    """Codes of programs, all of whose hues must agree, and their papers."""
    codes = [made(program, votes) for program in HAND_MADE[:12] for votes in ((1, 2, 3), (1, 2, 3, 4, 5))]
    return [(code, made_paper(code)) for code in codes if code is not None]


class Facts(unittest.TestCase):
    """[80]."""

    def lay_some(self, bench, maker, hues, most):
        """Goes on with strikes of some hues, and is led wherever it is caught; what was blamed."""
        told = []
        for _ in range(12):
            if bench.state == "caught":
                blamed = bench.blames(most)
                told.extend(blamed or ())
                try:
                    before = len(bench.strikes)
                    bench.lead(most)
                    told.extend([strike[1] for strike in bench.strikes[before:]])
                except (Unclear, Full):
                    break
            if hues and bench.state == "running":
                for _ in range(maker.chance.randrange(3)):
                    hue = maker.chance.choice(hues)
                    bench.strike(hue, *maker.struck_thing(bench.code, hue))
            bench.go(maker.chance.randrange(12))
            self.check_journal(bench)
        return told

    def check_journal(self, bench):
        """The code, the inputs and the strikes tell all."""
        other = Machine(bench.code, bench.inputs, bench.strikes)
        other.go(bench.steps)
        self.assertEqual((other.row, other.state, other.steps, other.left),
                         (bench.row, bench.state, bench.steps, bench.left))
        twin = bench.copy()
        for steps in (1, 7):
            twin.go(steps)
            other.go(steps)
            self.assertEqual(other.moment(), twin.moment())

    def test_right_or_caught(self):
        seen = {"same": 0, "caught": 0, "told": 0}
        for seed, (code, paper) in enumerate(shown_codes(400) * 2):
            maker = CodeMaker(seed)
            hues, votes = len(code[0]), code[0]
            some = maker.chance.sample(range(hues), maker.chance.randint(0, hues - 1))
            widths = {cell[2] for cell in code[2] if cell[0] in ("show", "turn", "take")} | {hues}
            if any([len([hue for hue in some if hue < width]) >= votes[width - 1] for width in widths]):
                continue
            bench = Bench(code, paper, maker.inputs())
            told = self.lay_some(bench, maker, some, len(some))
            self.assertLessEqual(set(told), set(some))
            self.assertIn(bench.verdict(), ("same", "caught"))
            self.assertLessEqual(set(bench.struck), set(some))
            seen[bench.verdict()] += 1
            seen["told"] += len(told)
        self.assertGreater(min(seen.values()), 20, seen)

    def test_led_to_the_end(self):
        leads = 0
        for seed, (code, paper) in enumerate(programs_codes() + [(FIVE, made_paper(FIVE))] * 3):
            maker = CodeMaker(seed)
            hues = len(code[0])
            most = (hues - 1) // 2
            some = maker.chance.sample(range(hues), most)
            bench = Bench(code, paper, [3, 1, 4])
            while bench.state != "stopped" and bench.steps < 600 and len(bench.strikes) < 350:
                if bench.state == "caught":
                    bench.lead(most)
                    leads += 1
                elif maker.chance.random() < 0.4:
                    hue = maker.chance.choice(some)
                    bench.strike(hue, *maker.struck_thing(code, hue))
                bench.go(maker.chance.randrange(20))
            if bench.state == "caught":
                bench.lead(most)
            self.assertEqual(bench.row, machine_row(code, [3, 1, 4], bench.steps))
        self.assertGreater(leads, 30)

    def test_moments_beside_a_machine(self):
        """Wherever a bench stands, it is told by its code, inputs and strikes."""
        for seed, (code, paper) in enumerate(shown_codes(120)):
            maker = CodeMaker(seed)
            bench = Bench(code, paper, maker.inputs())
            self.lay_some(bench, maker, list(range(len(code[0]))), maker.chance.randrange(3))
            while len(bench):
                bench.undo()
                self.check_journal(bench)


if __name__ == "__main__":
    unittest.main()
