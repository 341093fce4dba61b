"""Benches: [77] and [78]."""

import copy
import unittest

from hueward.bench import Bench
from hueward.errors import BadCode, BadHue, BadInputs, BadMoment, BadName, BadNew, BadPaper, BadPlace, BadSteps, Ended
from hueward.errors import Full, HueError, NotCaught, NotKept, NotShown, NothingDone, Unclear
from hueward.machine import Machine
from hueward.papermaking import made_paper
from hueward.papers import doubts
from hueward.thresholds import judged
from tests.coding import CODE_30, CodeMaker, coded
from tests.compiling import RUNS, made
from tests.papering import CODE_44, PAPER_44, paper_codes
from tests.plain_bench import PlainBench, Refused
from tests.samples import STRANGE
from tests.test_marks import CODE_53, LOOP

PAPER_30 = made_paper(CODE_30)
PROPERTIES = ("code", "paper", "inputs", "row", "state", "steps", "left", "strikes", "struck", "kept", "log")
# Goes round for ever, and takes.
ROUND = coded(("take", 0, 2), (0, "offer", 0), (1, "offer", 0), ("show", 0, 2), ("goto", 0))


def told(bench):
    """All that a bench tells of itself."""
    found = [getattr(bench, name) for name in PROPERTIES] + [len(bench), bench.moment()]
    return found + [bench.row_at(at) for at in range(len(bench) + 1)]


def struck_bench():
    """A bench with each kind of deed."""
    bench = Bench(LOOP, made_paper(LOOP), [3, 14, 5])
    bench.go(7)
    bench.strike(2, ("register", 6), 1)
    bench.keep("a")
    bench.strike(1, ("slot",), None)
    bench.go(3)
    bench.begin([7])
    bench.go(2)
    bench.lay(CODE_53, made_paper(CODE_53))
    bench.keep("b")
    bench.go(4)
    bench.strike(0, ("slot",), 1)
    bench.go(1)
    bench.back("a")
    return bench


class Beginnings(unittest.TestCase):

    def test_a_new_bench(self):
        bench = Bench(CODE_44, PAPER_44, [3, 14])
        found = [getattr(bench, name) for name in PROPERTIES]
        self.assertEqual(found, [CODE_44, PAPER_44, [3, 14], [], "running", 0, [3, 14], [], (), [], []])
        self.assertEqual((len(bench), bench.moment()), (0, Machine(CODE_44, [3, 14]).moment()))
        self.assertEqual((bench.verdict(), bench.row_at(0)), ("same", []))

    def test_errors_from_left_to_right(self):
        for bad in STRANGE:
            self.assertRaises(BadCode, Bench, bad, None, None)
        for bad in STRANGE + ({1: []}, {0: None}, {0: [(3, ((0, 8),))]}, {False: []}):
            self.assertRaises(BadPaper, Bench, CODE_30, bad, None)
        wrong = {0: [(1, ((0, 0),))]}
        with self.assertRaises(NotShown) as caught:
            Bench(CODE_30, wrong, None)
        self.assertEqual(caught.exception.doubt, (0, 0, "start"))
        self.assertEqual(caught.exception.doubt, doubts(CODE_30, wrong)[0])
        code = coded((0, "set", 0, 1), (0, "offer", 0), (1, "offer", 0), ("show", 0, 2), ("stop",))
        with self.assertRaises(NotShown) as caught:
            Bench(code, {0: []}, None)
        self.assertEqual(caught.exception.doubt, (0, 3, "slots"))
        for bad in (None, [True], [10000], {}, "1", [1] * 401):
            self.assertRaises(BadInputs, Bench, CODE_30, PAPER_30, bad)

    def test_tables_may_be_tuples(self):
        paper = {0: tuple(PAPER_44[0])}
        bench = Bench(CODE_44, paper, (1, 2))
        self.assertEqual((bench.paper, bench.inputs), (PAPER_44, [1, 2]))
        self.assertEqual(bench, Bench(CODE_44, PAPER_44, [1, 2]))
        bench.lay(CODE_44, paper)
        bench.begin((3,))
        self.assertEqual(bench.log, [("lay", CODE_44, PAPER_44), ("begin", [3])])
        self.assertIsInstance(bench.log[0][2][0], list)
        self.assertIsInstance(bench.log[1][1], list)


class Deeds(unittest.TestCase):

    def refused(self, bench, error, call):
        """A deed that raises an error changes nothing."""
        before = copy.deepcopy(told(bench))
        with self.assertRaises(error) as caught:
            call()
        self.assertEqual(told(bench), before)
        return caught.exception

    def test_go(self):
        bench = Bench(ROUND, {0: []}, [3])
        self.assertIsNone(bench.go(4))
        self.assertEqual((bench.row, bench.steps, bench.left), ([("take", 3), ("show", 0, 3)], 4, []))
        bench.go(0)
        self.assertEqual(bench.log, [("go", 4), ("go", 0)])
        for bad in (None, True, -1, 1000001, "1", [1], 10 ** 99):
            self.refused(bench, BadSteps, lambda: bench.go(bad))

    def test_a_million_steps_in_all(self):
        bench = Bench(coded(("goto", 0), votes=(1,)), {0: []}, [])
        bench.go(999999)
        self.refused(bench, BadSteps, lambda: bench.go(2))
        bench.go(1)
        self.assertEqual(bench.steps, 1000000)
        bench.go(0)
        self.refused(bench, BadSteps, lambda: bench.go(1))
        bench.undo()
        bench.undo()
        bench.go(1)
        bench.begin([])
        bench.go(1000)
        # A run that is over counts with its steps.
        over = Bench(CODE_30, PAPER_30, [])
        over.go(1000)
        self.assertEqual((over.steps, over.state), (6, "stopped"))
        self.refused(over, BadSteps, lambda: over.go(999995))
        over.go(999994)
        self.assertEqual(over.steps, 6)
        self.assertEqual(len(over), 2)

    def test_strike(self):
        bench = Bench(CODE_30, PAPER_30, [])
        bench.go(2)
        self.assertIsNone(bench.strike(1, ("register", 0), 8))
        self.assertEqual((bench.strikes, bench.struck), ([(2, 1, ("register", 0), 8)], (1,)))
        self.assertEqual(bench.moment()[0][1][0][0], 8)
        for error, hue, place, new in (
            (BadHue, 2, None, None), (BadHue, True, None, None), (BadPlace, 1, ("cell", 0), None),
            (BadPlace, 1, ["slot"], 1), (BadPlace, 0, ("code", 1), None), (BadNew, 1, ("slot",), 10),
            (BadNew, 1, ("pointer",), 10000), (BadNew, 1, ("code", 1), (0, "set", 0, 1)),
        ):
            self.refused(bench, error, lambda: bench.strike(hue, place, new))
        bench.strike(0, ("slot",), None)
        bench.strike(0, ("code", 2), (0, "offer", 3))
        self.assertEqual(bench.struck, (0, 1))
        self.assertEqual(bench.log[1:], [("strike", 1, ("register", 0), 8), ("strike", 0, ("slot",), None),
                                         ("strike", 0, ("code", 2), (0, "offer", 3))])

    def test_ended(self):
        for strike in (None, (2, ("register", 0), 8)):
            bench = Bench(CODE_30, PAPER_30, [])
            bench.go(2)
            if strike:
                bench.strike(1, *strike[1:])
            bench.go(10)
            self.assertEqual(bench.state, "caught" if strike else "stopped")
            self.refused(bench, Ended, lambda: bench.strike(0, ("slot",), 1))
            self.refused(bench, BadHue, lambda: bench.strike(2, ("slot",), 1))
            self.refused(bench, BadNew, lambda: bench.strike(0, ("slot",), 10))

    def test_four_hundred_strikes(self):
        bench = Bench(ROUND, {0: []}, [])
        for at in range(400):
            bench.strike(at % 2, ("register", 3), at % 10)
        self.refused(bench, Full, lambda: bench.strike(0, ("slot",), 1))
        self.refused(bench, BadPlace, lambda: bench.strike(0, ("slot", 1), 1))
        self.assertEqual(len(bench.strikes), 400)
        bench.go(10)
        self.refused(bench, Full, lambda: bench.strike(0, ("slot",), 1))
        bench.begin([])
        bench.strike(0, ("slot",), 1)
        bench.undo()
        bench.undo()
        bench.undo()
        bench.undo()
        self.assertEqual(len(bench.strikes), 399)
        bench.strike(0, ("slot",), 1)
        bench.lay(ROUND, {0: []})
        self.assertEqual(bench.strikes, [])

    def test_lay(self):
        bench = Bench(LOOP, made_paper(LOOP), [3, 14, 5])
        bench.go(5)
        bench.strike(0, ("slot",), 1)
        bench.keep("x")
        self.assertIsNone(bench.lay(CODE_44, PAPER_44))
        found = [getattr(bench, name) for name in PROPERTIES[:10]]
        self.assertEqual(found, [CODE_44, PAPER_44, [3, 14, 5], [], "running", 0, [3, 14, 5], [], (), ["x"]])
        self.assertEqual(bench.moment(), Machine(CODE_44, [3, 14, 5]).moment())
        for bad in STRANGE:
            self.refused(bench, BadCode, lambda: bench.lay(bad, None))
            self.refused(bench, BadPaper, lambda: bench.lay(CODE_30, bad))
        wrong = self.refused(bench, NotShown, lambda: bench.lay(CODE_30, {0: [(1, ((0, 0),))]}))
        self.assertEqual(wrong.doubt, (0, 0, "start"))
        bench.back("x")
        self.assertEqual((bench.code, bench.steps, bench.strikes), (LOOP, 5, [(5, 0, ("slot",), 1)]))

    def test_begin(self):
        bench = Bench(ROUND, {0: []}, [3])
        bench.go(3)
        bench.strike(0, ("slot",), 1)
        self.assertIsNone(bench.begin([4, 15]))
        self.assertEqual((bench.inputs, bench.left, bench.steps, bench.strikes), ([4, 15], [4, 15], 0, []))
        self.assertEqual((bench.struck, bench.state, bench.row), ((), "running", []))
        for bad in (None, [True], [10000], {}, "1", [1] * 401):
            self.refused(bench, BadInputs, lambda: bench.begin(bad))
        bench.go(2)
        self.assertEqual(bench.left, [15])

    def test_keep_and_back(self):
        bench = Bench(ROUND, {0: []}, [3, 4])
        bench.go(3)
        bench.strike(0, ("register", 0), 1)
        bench.keep("b")
        bench.keep("a")
        self.assertEqual(bench.kept, ["a", "b"])
        bench.go(10)
        bench.strike(1, ("register", 3), 1)
        bench.keep("a")
        bench.begin([9])
        bench.go(5)
        self.assertIsNone(bench.back("b"))
        self.assertEqual((bench.steps, bench.inputs, bench.strikes, bench.struck, bench.kept),
                         (3, [3, 4], [(3, 0, ("register", 0), 1)], (0,), ["a", "b"]))
        bench.go(1)
        self.assertEqual(bench.row[-1], ("show", 0, 3))
        bench.back("a")
        self.assertEqual((bench.steps, len(bench.strikes), bench.struck), (13, 2, (0, 1)))
        for bad in STRANGE + ("c", "A", "mark", "main", bench, Machine(ROUND, [])):
            wrong = self.refused(bench, NotKept, lambda: bench.back(bad))
            self.assertIs(wrong.name, bad)
        for bad in STRANGE + ("mark", "main", "A", "aaaaaaaaa", "a b", bench):
            if bad != "x":
                self.refused(bench, BadName, lambda: bench.keep(bad))

    def test_what_is_kept_is_told_no_more_than_once(self):
        bench = Bench(ROUND, {0: []}, [])
        bench.keep("x")
        bench.go(2)
        bench.keep("x")
        self.assertEqual(bench.kept, ["x"])
        bench.go(2)
        bench.back("x")
        self.assertEqual(bench.steps, 2)
        for _ in range(3):
            bench.undo()
        self.assertEqual((bench.kept, bench.steps), (["x"], 2))
        bench.back("x")
        self.assertEqual(bench.steps, 0)

    def test_undo(self):
        bench = struck_bench()
        log = bench.log
        before = []
        while len(bench):
            before.append(copy.deepcopy(told(bench)))
            self.assertIsNone(bench.undo())
            self.assertEqual(bench.log, log[:len(bench)])
        self.assertEqual((bench.kept, bench.steps, bench.inputs, bench.code), ([], 0, [3, 14, 5], LOOP))
        self.refused(bench, NothingDone, bench.undo)
        for deed in log:
            getattr(bench, deed[0])(*deed[1:])
            self.assertEqual(told(bench), before.pop())

    def test_undo_of_a_lead(self):
        bench = Bench(CODE_53, made_paper(CODE_53), [])
        bench.go(4)
        bench.strike(0, ("slot",), 3)
        bench.go(1)
        before = told(bench)
        self.refused(bench, Unclear, lambda: bench.lead(1))
        three = made(RUNS[0], (1, 2, 3))
        bench = Bench(three, made_paper(three), [])
        bench.strike(2, ("pointer",), 5)
        bench.go(1)
        before = told(bench)
        bench.lead(1)
        self.assertEqual((bench.state, bench.steps), ("running", 0))
        bench.undo()
        self.assertEqual(told(bench), before)


class Answers(unittest.TestCase):

    def test_what_was_handed_in_or_told_may_be_changed(self):
        paper, inputs = copy.deepcopy(PAPER_44), [3, 14]
        bench = Bench(CODE_44, paper, inputs)
        other, begun = copy.deepcopy(PAPER_44), [5]
        bench.go(3)
        bench.strike(0, ("slot",), 1)
        bench.keep("x")
        bench.lay(CODE_44, other)
        bench.begin(begun)
        bench.go(4)
        before = copy.deepcopy(told(bench))
        for table in (paper, other):
            table[0].clear()
            table.clear()
        inputs.clear()
        begun.append(7)
        for found in (bench.inputs, bench.row, bench.left, bench.strikes, bench.kept, bench.log, bench.row_at(1)):
            found.append(None)
        bench.paper[0].clear()
        bench.paper.clear()
        bench.log[3][2][0].clear()
        bench.log[3][2].clear()
        bench.log[4][1].clear()
        self.assertEqual(told(bench), before)
        bench.back("x")
        self.assertEqual((bench.paper, bench.inputs), (PAPER_44, [3, 14]))

    def test_row_at(self):
        bench = struck_bench()
        rows = [bench.row_at(at) for at in range(len(bench) + 1)]
        other = Bench(LOOP, made_paper(LOOP), [3, 14, 5])
        self.assertEqual(rows[0], [])
        for at, deed in enumerate(bench.log):
            getattr(other, deed[0])(*deed[1:])
            self.assertEqual(other.row, rows[at + 1])
        for bad in STRANGE + (len(bench) + 1, -1):
            if bad.__class__ is not int or not 0 <= bad <= len(bench):
                self.assertRaises(BadMoment, bench.row_at, bad)

    def test_equal(self):
        one, other = struck_bench(), struck_bench()
        self.assertEqual(one, other)
        other.undo()
        self.assertNotEqual(one, other)
        other.back("a")
        self.assertEqual(one, other)
        self.assertFalse(one != other)
        self.assertNotEqual(Bench(ROUND, {0: []}, []), Bench(ROUND, {0: []}, [1]))
        self.assertNotEqual(Bench(ROUND, {0: []}, []), Bench(ROUND[:1] + (11,) + ROUND[2:], {0: []}, []))
        zero = {0: [(0, ((0, 0),))]}
        self.assertNotEqual(Bench(CODE_30, {0: []}, []), Bench(CODE_30, zero, []))
        # The same things by other deeds are another log.
        one, other = Bench(ROUND, {0: []}, []), Bench(ROUND, {0: []}, [])
        one.go(2)
        other.go(1)
        other.go(1)
        self.assertNotEqual(one, other)
        for value in STRANGE + (Machine(ROUND, []), [], ()):
            self.assertNotEqual(one, value)
        self.assertRaises(TypeError, iter, one)

    def test_copy(self):
        bench = struck_bench()
        other = bench.copy()
        self.assertIsInstance(other, Bench)
        self.assertEqual(other, bench)
        self.assertEqual(told(other), told(bench))
        before = copy.deepcopy(told(bench))
        other.go(3)
        other.keep("zz")
        other.strike(0, ("register", 7), 2)
        self.assertEqual(told(bench), before)
        self.assertNotEqual(other, bench)
        for _ in range(5):
            other.undo()
        self.assertEqual(told(bench), before)
        kept = copy.deepcopy(told(other))
        bench.undo()
        bench.begin([])
        self.assertEqual(told(other), kept)

    def test_tried(self):
        bench = struck_bench()
        before = copy.deepcopy(told(bench))

        def fails(error):
            def task(tried):
                self.assertIs(tried, bench)
                tried.undo()
                tried.keep("c")
                tried.go(3)
                tried.undo()
                tried.undo()
                tried.begin([1])
                raise error
            return task

        for error in (KeyError("x"), Full("x"), KeyboardInterrupt(), ZeroDivisionError()):
            with self.assertRaises(error.__class__) as caught:
                bench.tried(fails(error))
            self.assertIs(caught.exception, error)
            self.assertEqual(told(bench), before)
        self.assertEqual(bench, struck_bench())

        def goes(tried):
            tried.go(2)
            return tried.steps

        self.assertEqual(bench.tried(goes), bench.steps)
        self.assertEqual(bench.log[-1], ("go", 2))
        self.assertIsNone(bench.tried(lambda tried: None))
        self.assertIs(bench.tried(lambda tried: tried), bench)

    def test_tried_with_errors_that_are_caught_inside(self):
        bench = Bench(ROUND, {0: []}, [])

        def task(tried):
            tried.go(1)
            try:
                tried.tried(lambda inner: inner.go(1) or inner.back("x"))
            except NotKept:
                return len(tried)

        self.assertEqual(bench.tried(task), 1)
        self.assertEqual(bench.log, [("go", 1)])

    def test_verdict(self):
        bench = Bench(CODE_30, PAPER_30, [])
        bench.go(4)
        self.assertEqual(bench.verdict(), "same")
        bench.strike(0, ("slot",), 8)
        self.assertEqual(bench.verdict(), "same")
        bench.strike(1, ("slot",), 8)
        bench.go(1)
        self.assertEqual(bench.verdict(), "wrong")
        bench.undo()
        bench.undo()
        bench.go(1)
        self.assertEqual(bench.verdict(), "caught")


class BesideAPlainOne(unittest.TestCase):

    def deed(self, maker, codes, is_caught):
        """A deed at random."""
        chance = maker.chance
        if is_caught and chance.random() < 0.5:
            return ("lead", chance.choice((1, 1, 2)))
        kind = chance.choice(("go", "go", "go", "strike", "strike", "strike", "lead", "lay", "begin", "keep", "back"))
        if kind == "go":
            return (kind, chance.choice((0, 1, 3, 8, 20)))
        if kind == "lead":
            return (kind, chance.choice((0, 1, 1, 2, 5)))
        if kind == "lay":
            return (kind,) + chance.choice(codes)
        if kind == "begin":
            return (kind, maker.inputs())
        return (kind, chance.choice(("a", "b")))

    def test_random_deeds(self):
        codes = []
        three = [made(program, (1, 2, 3)) for program in RUNS[:3]] + [(((1, 2, 3),) + LOOP[1:])] * 3
        for code in paper_codes(250) + three * 4:
            try:
                codes.append((code, made_paper(code)))
            except HueError:
                pass
        seen = {"Refused": 0, "lead": 0, "undo": 0}
        for seed in range(150):
            maker = CodeMaker(seed)
            some = maker.chance.sample(codes, 2)
            inputs = maker.inputs()
            bench, plain = Bench(*some[0], inputs), PlainBench(*some[0], inputs)
            for _ in range(25):
                self.step(bench, plain, maker, some, seen)
                self.compare(bench, plain)
        self.assertGreater(min(seen.values()), 20, seen)

    def step(self, bench, plain, maker, some, seen):
        if maker.chance.random() < 0.12 and plain.deeds:
            plain.deeds.pop()
            bench.undo()
            seen["undo"] += 1
            return
        deed = self.deed(maker, some, bench.state == "caught")
        if deed[0] == "strike":
            hue = maker.chance.randrange(len(bench.code[0]))
            deed = ("strike", hue) + maker.struck_thing(bench.code, hue)
        try:
            plain.do(*deed)
        except Refused as refused:
            with self.assertRaises(HueError) as caught:
                getattr(bench, deed[0])(*deed[1:])
            self.assertEqual(caught.exception.__class__.__name__, str(refused))
            seen["Refused"] += 1
            return
        getattr(bench, deed[0])(*deed[1:])
        seen["lead"] += deed[0] == "lead"

    def compare(self, bench, plain):
        now, kept = plain.look()
        machine = now.machine()
        self.assertEqual((bench.code, bench.inputs, bench.strikes, bench.steps), (now.code, now.inputs, now.strikes, now.steps))
        self.assertEqual((bench.row, bench.state, bench.left), (machine.row, machine.state, machine.left))
        self.assertEqual(bench.moment(), machine.moment())
        self.assertEqual(bench.kept, sorted(kept))
        self.assertEqual(bench.log, plain.deeds)
        hands = sorted({strike[1] for strike, hand in zip(now.strikes, now.hands) if hand})
        self.assertEqual(bench.struck, tuple(hands))
        self.assertEqual(bench.verdict(), judged(now.code, now.inputs, now.strikes, now.steps))
        at = len(plain.deeds) // 2
        self.assertEqual(bench.row_at(at), plain.look(at)[0].machine().row)
        for most in (0, 1, 3):
            try:
                found = (now.sights(), now.fits(most), now.blames(most))
            except Refused:
                self.assertRaises(NotCaught, bench.sights)
                self.assertRaises(NotCaught, bench.fits, most)
                self.assertRaises(NotCaught, bench.blames, most)
                continue
            self.assertEqual(bench.sights(), (found[0][0], tuple(found[0][1])))
            self.assertEqual((bench.fits(most), bench.blames(most)), found[1:])


if __name__ == "__main__":
    unittest.main()
