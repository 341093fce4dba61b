"""The whole program: [1] to [5]."""

import copy
import unittest

from hueward import errors
from hueward.bench import Bench
from hueward.codes import hues_of
from hueward.compiling import compiled
from hueward.counts import tally
from hueward.desk import Desk
from hueward.flows import things
from hueward.machine import Machine, machine_row
from hueward.markplaces import fewest_marks, longest_leg, with_marks
from hueward.marks import Kept
from hueward.meaning import Run, source_row
from hueward.papermaking import made_paper
from hueward.papers import is_shown
from hueward.progtexts import program_of, program_text
from hueward.schedules import in_order, schedule_at, schedules_many
from hueward.thresholds import defeat, judged, stall
from hueward.widths import is_fit, least_widths
from tests.coding import CODE_30, CodeMaker
from tests.compiling import LOOPS
from tests.papering import CODE_44, PAPER_44
from tests.samples import FULL, PROGRAM_16, PROGRAM_21, TEXT_16
from tests.test_errors import INTERFACE
from tests.test_markplaces import CODE_58
from tests.test_schedules import CODE_73

OTHER_73 = schedule_at(CODE_73, 1)
WIDE = {thing: 2 for thing in things(PROGRAM_21)}
ONE = CODE_58
# What fits as each parameter, and the error that is told for it; None where any value is judged.
GOOD = {
    "program": (PROGRAM_21, "BadProgram"), "part": ("f", "NoPart"), "place": (("main", 1), "BadPlace"),
    "node": (("take", "y"), "BadNode"), "table": ({"x": "zz"}, "BadTable"), "size": (11, "BadSize"),
    "text": (TEXT_16, "BadText"), "inputs": ([3, 14], "BadInputs"), "steps": (30, "BadSteps"), "value": (CODE_30, None),
    "code": (CODE_30, "BadCode"), "hue": (1, "BadHue"), "strikes": ([(2, 1, ("register", 0), 8)], "BadStrikes"),
    "order": ((1, 0), "BadOrder"), "thing": (("takes",), "BadThing"), "first": (("takes",), "BadThing"),
    "last": (("port", 2), "BadThing"), "hues": (2, "BadHues"), "wishes": ({2: 2}, "BadWishes"),
    "widths": (WIDE, "BadWidths"), "votes": ((1, 2), "BadVotes"), "struck": ([0], "BadStruck"),
    "paper": (PAPER_44, "BadPaper"), "other": (OTHER_73, "NotSchedule"), "told": (1, "BadWish"), "whole": (0, "BadWish"),
    "need": (2, "BadVotes"), "slots": ([3, 3, None], "BadSlots"), "most": (1, "BadMost"),
    "checkpoint": ((0, (0,) * 8, (), (7,)), "BadCheckpoint"), "many": (3, "BadMany"), "some": ([0, 1], "BadLabels"),
    "length": (3, "BadLength"), "at": (2, "BadStep"), "address": (1, "BadAddress"), "rank": (2, "BadRank"),
}
# Where another value fits, or another error is told.
OWN = {
    "codetexts.code_of": {"text": ("votes 1\nsize 2\nbank\nstop", "BadCodeText")},
    "striketexts.strikes_of": {"text": ("2 1 register 0 8", "BadStrikesText")},
    "counts.tally": {"hue": (1, "BadHue")},
    "papermaking.joined": {"code": (CODE_44, "BadCode"), "other": (CODE_44, "BadOther")},
}
for name in ("spans", "value_ranges", "tally_at"):
    OWN["counts." + name] = {"place": (("register", 0), "BadPlace")}
for name in ("doubts", "is_shown", "made_paper"):
    OWN["papers." + name] = {"code": (CODE_44, "BadCode")}
OWN["bench.Bench"] = {"code": (CODE_44, "BadCode")}
for name in ("with_marks", "fewest_marks"):
    OWN["markplaces." + name] = {"code": (ONE, "BadCode")}
OWN["compiling.widened"] = {"code": (ONE, "BadCode")}
for name in ("exchanged", "schedule_at", "moved_address", "moved_strikes", "nearest_exchanges", "exchanges_to"):
    OWN["schedules." + name] = {"code": (CODE_73, "BadCode"), "strikes": ([(2, 1, ("register", 0), 8)], "BadStrikes")}
NO_VALUES = (["x", None], True, -1, Machine(CODE_30, []), {"x": ["y"]}, ("main", True), 10 ** 99, (((1,),),))


def calls():
    """Each function of the interface, with its name, and pairs of a value that fits and an error for each parameter."""
    for module, functions in INTERFACE.items():
        for name, params in functions.items():
            full = module + "." + name
            own = OWN.get(full, {})
            value = getattr(__import__("hueward." + module, fromlist=["x"]), name)
            if full != "desk.Desk":
                yield full, value, {param: own.get(param, GOOD[param]) for param in params.split()}


def emptied(value):
    """Empties all lists and dicts in a value."""
    if isinstance(value, dict):
        for inside in list(value.values()):
            emptied(inside)
        value.clear()
    elif isinstance(value, (list, tuple)):
        for inside in value:
            emptied(inside)
        if isinstance(value, list):
            value.clear()


def listed(value, kind):
    """The value with all lists that are let as lists or tuples as this kind."""
    return kind(value) if isinstance(value, list) else value


def plain(value):
    """What a result tells, also if it is an object."""
    if isinstance(value, (Run, Machine, Kept, Bench)):
        return (value.steps, value.left, value.state)
    return value


class Interface(unittest.TestCase):

    def test_by_position_and_by_name(self):
        for name, function, params in calls():
            by_position = function(*[good for good, _ in params.values()])
            by_name = function(**{param: good for param, (good, _) in reversed(list(params.items()))})
            self.assertEqual(plain(by_position), plain(by_name), name)

    def test_each_parameter_has_its_error(self):
        for name, function, params in calls():
            for param, (_, error) in params.items():
                for bad in NO_VALUES:
                    values = {other: good for other, (good, _) in params.items()}
                    values[param] = bad
                    if error is None:
                        self.assertIs(function(**values), False, (name, bad))
                        continue
                    with self.assertRaises(getattr(errors, error), msg=(name, param, bad)):
                        function(**values)

    def test_from_left_to_right(self):
        for name, function, params in calls():
            judged_ones = [(param, error) for param, (_, error) in params.items() if error is not None]
            for at, (param, error) in enumerate(judged_ones):
                for bad in NO_VALUES[:4]:
                    values = {other: good for other, (good, _) in params.items()}
                    values.update({other: bad for other, _ in judged_ones[at:]})
                    with self.assertRaises(getattr(errors, error), msg=(name, param, bad)):
                        function(**values)

    def test_what_is_passed_in_stays(self):
        for name, function, params in calls():
            values = copy.deepcopy({param: good for param, (good, _) in params.items()})
            before = copy.deepcopy(values)
            emptied(function(**values))
            self.assertEqual(values, before, name)

    def test_what_is_returned_is_new(self):
        for name, function, params in calls():
            values = {param: good for param, (good, _) in params.items()}
            kept = copy.deepcopy(plain(function(**values)))
            emptied(function(**values))
            self.assertEqual(plain(function(**values)), kept, name)

    def test_lists_and_tuples(self):
        for name, function, params in calls():
            found = []
            for kind in (list, tuple):
                values = {param: listed(good, kind) for param, (good, _) in params.items()}
                found.append(plain(function(**values)))
            self.assertEqual(found[0], found[1], name)

    def test_errors_stand_below_hue_error(self):
        for name, function, params in calls():
            for bad in NO_VALUES:
                try:
                    function(**{param: bad for param in params})
                except errors.HueError as wrong:
                    self.assertEqual(wrong.__class__.__module__, "hueward.errors")
                else:
                    self.assertIn(None, [error for _, error in params.values()], name)


class Objects(unittest.TestCase):

    def made(self):
        return [Run(FULL, []), Machine(CODE_30, []), Kept(CODE_30, []), Bench(CODE_44, PAPER_44, []), Desk()]

    def test_equal_to_nothing_of_another_kind(self):
        for at, one in enumerate(self.made()):
            for other, two in enumerate(self.made()):
                if at != other:
                    self.assertFalse(one == two)
            for value in NO_VALUES[:3] + (None, 0, "", (), [], {}):
                self.assertFalse(one == value or value == one)
            self.assertRaises(TypeError, iter, one)

    def test_copies_are_independent(self):
        for one in self.made()[:4]:
            other = one.copy()
            self.assertIs(other.__class__, one.__class__)
            one.go(5)
            self.assertEqual((other.steps, one.steps), (0, 5))
            other.go(5)
            self.assertEqual((other.row if hasattr(one, "row") else other.out), one.row if hasattr(one, "row") else one.out)

    def test_deeds_return_nothing(self):
        for one in self.made()[:4]:
            self.assertIsNone(one.go(1))
            if not isinstance(one, Run):
                self.assertIsNone(one.strike(0, ("slot",), 1))


class Guarantees(unittest.TestCase):
    """[1] and [2], from a text to the counts."""

    INPUTS = [1, 3, 4]

    def test_right_or_caught(self):
        for at, text in enumerate((TEXT_16, program_text(PROGRAM_21))):
            program = program_of(text)
            row = source_row(program, self.INPUTS, 200)
            for votes in ((1, 2), (1, 2, 2), (1, 2, 3), (1, 2, 2, 3, 3)):
                code = compiled(program, votes)
                hues, need = hues_of(code), votes[-1]
                self.assertEqual(machine_row(code, self.INPUTS, 3000)[:len(row)], row)
                chance = CodeMaker(at).chance
                for _ in range(20):
                    some = chance.sample(range(hues), chance.randint(0, need - 1))
                    strikes = CodeMaker(chance.randrange(1000)).strikes(code, 8, 300, some) if some else []
                    word = judged(code, self.INPUTS, strikes, 3000)
                    self.assertIn(word, ("same", "caught") if len(some) > hues - need else ("same",))
                self.assertEqual(judged(code, self.INPUTS, defeat(code, self.INPUTS, 3000), 3000), "wrong")
                self.assertEqual(len(defeat(code, self.INPUTS, 3000)), need)
                self.assertEqual(len(stall(code, self.INPUTS, 3000)), hues - need + 1)

    def test_papers_schedules_and_counts_go_together(self):
        code = compiled(PROGRAM_16, (1, 2))
        other = schedule_at(code, schedules_many(code) // 3)
        self.assertNotEqual(code, other)
        self.assertEqual(in_order(other), in_order(code))
        self.assertTrue(is_shown(other, made_paper(code)))
        self.assertEqual(machine_row(code, [1], 500), machine_row(other, [1], 500))
        found = tally(code, [1], 200)
        self.assertEqual((found["wrong"], found["other"]), (0, 0))
        self.assertGreater(found["caught"], 0)

    def test_marks_bear_any_number_of_strikes(self):
        code = compiled(LOOPS, (1, 2, 3))
        program = (10, (), (), (("take", "x"), ("while", ("local", "x"), (
            ("show", 0, ("local", "x")), ("let", "x", ("minus", ("local", "x"), ("number", 1))))), ("stop",)))
        small = compiled(program, (1, 2, 3))
        some = fewest_marks(small, 60)
        marked = with_marks(small, some)
        self.assertLessEqual(longest_leg(marked), 60)
        for code, inputs in ((marked, [6]), (code, [3])):
            row = machine_row(code, inputs, 100000)
            self.assertEqual(row[-1], ("stop",))
            kept = Kept(code, inputs)
            maker = CodeMaker(7)
            strikes = legs = 0
            hue = 0
            while kept.state == "running" and kept.steps < 100000:
                if len(kept.legs) > legs:
                    legs, hue = len(kept.legs), maker.chance.randrange(3)
                if strikes < 60 and maker.chance.random() < 0.2:
                    kept.strike(hue, *maker.struck_thing(code, hue))
                    strikes += 1
                kept.go(1)
            self.assertEqual(kept.out, row)
            self.assertGreater(strikes, 10)

    def test_widths(self):
        widths = least_widths(PROGRAM_16, 3, {2: 3})
        self.assertTrue(is_fit(PROGRAM_16, 3, widths))
        code = compiled(PROGRAM_16, (1, 2, 2), widths)
        self.assertEqual(machine_row(code, [1], 2000), machine_row(compiled(PROGRAM_16, (1, 2, 2)), [1], 3000))

    def test_bench_and_desk(self):
        desk = Desk()
        self.assertEqual(desk.say("read 1 2 3\n" + TEXT_16), "ok")
        code = compiled(PROGRAM_16, (1, 2, 3))
        bench = Bench(code, made_paper(code), [])
        for line, deed in (("begin 1", lambda: bench.begin([1])), ("go 30", lambda: bench.go(30)),
                           ("strike 1 slot 3", lambda: bench.strike(1, ("slot",), 3)), ("go 900", lambda: bench.go(900))):
            self.assertEqual(desk.say(line), "ok")
            deed()
        self.assertEqual(desk.say("state"), f"{bench.state} {bench.steps}")


if __name__ == "__main__":
    unittest.main()
