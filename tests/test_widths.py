"""Widths and wishes, and what is safe and whole by them: [61], and the functions of [64]."""

import itertools
import random
import unittest

from hueward.errors import BadHues, BadProgram, BadStruck, BadVotes, BadWidths, BadWishes
from hueward.flows import flows, reached, things
from hueward.widths import first_narrow, is_fit, is_whole, least_widths, safe_things, settled_widths
from tests.coding import ALL_VOTES
from tests.compiling import LOOPS, all_programs, fit_widths, told
from tests.samples import FULL, PROGRAM_21, STRANGE, main_only

WRONG_WHOLES = (-1, True, False, None, "0", (0,), [0], {}, 10 ** 99)
MAIN = ("part", "main")
TAKES, LOOPING, END = ("takes",), ("loops",), ("end",)
X, Y = ("local", "main", "x"), ("local", "main", "y")

# The example at the end of [65].
PROGRAM_65 = told("""
    size 10
    main
      take x
      take y
      show 0 x
      if y
        show 1 y
""")
STOPPING_65 = told("""
    size 10
    main
      take x
      take y
      show 0 x
      if y
        show 1 y
        stop
""")
IF_65 = ("test", "main", 4)


def settled(widths):
    """The unlike widths above 0 of ports and tests."""
    return {width for thing, width in widths.items() if thing[0] in ("port", "test") and width > 0}


def is_settled(thing):
    return thing[0] in ("port", "takes", "loops")


class Wishes(unittest.TestCase):

    def test_right(self):
        for hues in range(1, 6):
            for wishes in ({}, {0: 1, 5: hues}, {"takes": hues}, {"loops": hues, 3: 1, "takes": 1}):
                least_widths(PROGRAM_65, hues, wishes)

    def test_wrong(self):
        for bad in (None, True, 1, "", (), [], ((0, 1),), {6: 1}, {-1: 1}, {True: 1}, {False: 1}, {None: 1}, {"0": 1},
                    {"end": 1}, {("takes",): 1}, {"x": 1}, {("port", 0): 1}, {0: 0}, {0: 4}, {"takes": 4}, {"loops": 0},
                    {0: True}, {0: None}, {0: "1"}, {"takes": -1}, {0: 1, 6: 1}, {0: [1]}):
            self.assertRaises(BadWishes, least_widths, PROGRAM_65, 3, bad)
        self.assertRaises(BadWishes, least_widths, PROGRAM_65, 1, {0: 2})

    def test_in_sequence(self):
        for bad in STRANGE + (list(FULL),):
            self.assertRaises(BadProgram, least_widths, bad, None, None)
            self.assertRaises(BadProgram, is_fit, bad, None, None)
            self.assertRaises(BadProgram, first_narrow, bad, None)
            self.assertRaises(BadProgram, settled_widths, bad, None)
            self.assertRaises(BadProgram, safe_things, bad, None, None, None)
            self.assertRaises(BadProgram, is_whole, bad, None, None, None)
        for bad in (0, 6) + WRONG_WHOLES:
            self.assertRaises(BadHues, least_widths, PROGRAM_65, bad, None)
            self.assertRaises(BadHues, is_fit, PROGRAM_65, bad, None)


class Least(unittest.TestCase):

    def test_example(self):
        self.assertEqual(least_widths(PROGRAM_65, 3, {0: 3}), {
            MAIN: 3, X: 3, Y: 1, IF_65: 1, ("port", 0): 3, ("port", 1): 1, TAKES: 3, LOOPING: 1, END: 3,
        })
        self.assertEqual(least_widths(STOPPING_65, 3, {0: 3}), {
            MAIN: 3, X: 3, Y: 3, IF_65: 3, ("port", 0): 3, ("port", 1): 1, TAKES: 3, LOOPING: 1, END: 3,
        })

    def test_nothing_wished(self):
        program = told("""
            size 10
            array a 1
            function f x
              y = x
            main
              b = c
              show 2 d
        """)
        self.assertEqual(least_widths(program, 4, {}), {
            ("array", "a"): 0, ("part", "f"): 0, ("local", "f", "x"): 0, ("local", "f", "y"): 0, ("result", "f"): 0,
            MAIN: 1, ("local", "main", "b"): 0, ("local", "main", "c"): 0, ("local", "main", "d"): 1, ("port", 2): 1,
            TAKES: 1, LOOPING: 1, END: 1,
        })

    def test_takes_and_loops(self):
        program = told("""
            size 10
            main
              while x
                y = 1
              if z
                take w
        """)
        widths = least_widths(program, 5, {"takes": 4, "loops": 3})
        found = [widths[("local", "main", name)] for name in "wxyz"]
        self.assertEqual(found, [0, 3, 0, 4])
        self.assertEqual([widths[thing] for thing in (MAIN, TAKES, LOOPING, END)], [4, 4, 3, 4])

    def test_with_a_mark(self):
        for hues in range(1, 6):
            for program in (LOOPS, main_only(("if", ("number", 0), (("mark",),), ()))):
                self.assertEqual(least_widths(program, hues, {0: 1}), {thing: hues for thing in things(program)})

    def test_ports_that_are_not_shown(self):
        self.assertEqual(least_widths(PROGRAM_65, 3, {0: 3, 4: 3, 5: 2}), least_widths(PROGRAM_65, 3, {0: 3}))

    def test_they_are_what_is_reached(self):
        for at, program in enumerate(all_programs(25, 8)):
            if any([node == ("mark",) for node in self.statements(program[3])]):
                continue
            chance = random.Random(at)
            hues = chance.randint(1, 5)
            wishes = {port: chance.randint(1, hues) for port in (0, 1, 2, 5, "takes", "loops") if chance.random() < 0.6}
            widths = least_widths(program, hues, wishes)
            self.assertEqual(list(widths), things(program))
            for thing in chance.sample(things(program), min(12, len(things(program)))):
                keys = [one[1] if one[0] == "port" else one[0] for one in reached(program, thing) if is_settled(one)]
                self.assertEqual(widths[thing], max([wishes.get(key, 1) for key in keys], default=0))

    def statements(self, body):
        """All statements of a body."""
        found = []
        for node in body:
            found.append(node)
            for inside in node[1:]:
                if isinstance(inside, tuple) and (not inside or isinstance(inside[0], tuple)):
                    found += self.statements(inside)
        return found

    def test_least(self):
        """Fit, at least as wished, and no smaller ones are."""
        for at, program in enumerate(all_programs(60, 10)):
            chance = random.Random(at)
            hues = chance.randint(1, 5)
            wishes = {port: chance.randint(1, hues) for port in (0, 1, 2, 5, "takes", "loops") if chance.random() < 0.6}
            widths = least_widths(program, hues, wishes)
            self.assertTrue(is_fit(program, hues, widths))
            for thing in things(program):
                key = thing[1] if thing[0] == "port" else thing[0]
                if is_settled(thing):
                    self.assertGreaterEqual(widths[thing], wishes.get(key, 1))
            for _ in range(2):
                other = fit_widths(program, hues, chance)
                wished = all([other[thing] >= wishes.get(thing[1] if thing[0] == "port" else thing[0], 1)
                              for thing in other if is_settled(thing)])
                if wished:
                    self.assertTrue(all([widths[thing] <= other[thing] for thing in widths]))

    def test_two_of_them(self):
        """The smaller and the greater of two fit ones are fit; greater wishes give the greater least widths."""
        for at, program in enumerate(all_programs(40, 10)):
            chance = random.Random(at)
            hues = chance.randint(1, 5)
            one, other = fit_widths(program, hues, chance), fit_widths(program, hues, chance)
            for choice in (min, max):
                self.assertTrue(is_fit(program, hues, {thing: choice(one[thing], other[thing]) for thing in one}))
            wishes = [{port: chance.randint(1, hues) for port in (0, 1, 2, "takes", "loops")} for _ in range(2)]
            both = {port: max(wishes[0][port], wishes[1][port]) for port in wishes[0]}
            found = [least_widths(program, hues, one) for one in wishes]
            self.assertEqual(least_widths(program, hues, both),
                             {thing: max(found[0][thing], found[1][thing]) for thing in found[0]})


class Fit(unittest.TestCase):

    def test_each_condition(self):
        widths = least_widths(PROGRAM_65, 3, {0: 3})
        self.assertIs(is_fit(PROGRAM_65, 3, widths), True)
        for thing, width in ((("port", 1), 0), (("port", 0), 0), (TAKES, 0), (LOOPING, 0), (MAIN, 2), (X, 2), (Y, 0),
                             (IF_65, 0), (END, 2), (TAKES, 2), (IF_65, 2), (Y, 4), (("port", 1), 2)):
            self.assertIs(is_fit(PROGRAM_65, 3, dict(widths) | {thing: width}), False, (thing, width))
        for thing, width in ((Y, 2), (Y, 3), (LOOPING, 2), (LOOPING, 3)):
            self.assertTrue(is_fit(PROGRAM_65, 3, dict(widths) | {thing: width}), (thing, width))

    def test_marks(self):
        program = main_only(("mark",), ("show", 0, ("number", 1)))
        for width in range(0, 5):
            self.assertEqual(is_fit(program, 3, {thing: width for thing in things(program)}), width == 3)
        self.assertFalse(is_fit(program, 3, {thing: 3 for thing in things(program)} | {LOOPING: 2}))

    def test_wholes_up_to_the_hues(self):
        for hues in range(1, 6):
            for width in range(0, 7):
                fits = is_fit(PROGRAM_65, hues, {thing: width for thing in things(PROGRAM_65)})
                self.assertEqual(fits, 1 <= width <= hues)

    def test_shapes(self):
        widths = {thing: 2 for thing in things(PROGRAM_65)}
        for bad in STRANGE + (list(widths.items()), tuple(widths.items()), list(widths)):
            self.assertFalse(is_fit(PROGRAM_65, 2, bad))
        for thing in widths:
            fewer = dict(widths)
            del fewer[thing]
            self.assertFalse(is_fit(PROGRAM_65, 2, fewer))
            for bad in (True, False, None, "2", (2,), [2], -1, 10 ** 99):
                self.assertFalse(is_fit(PROGRAM_65, 2, dict(widths) | {thing: bad}), bad)
        for key in (None, True, 0, "takes", "", (), ("port", 2), ("local", "main", "z"), ("part", "f"),
                    ("test", "main")):
            self.assertFalse(is_fit(PROGRAM_65, 2, dict(widths) | {key: 2}), key)
            fewer = dict(widths)
            del fewer[END]
            fewer[key] = 2
            self.assertFalse(is_fit(PROGRAM_65, 2, fewer), key)

    def test_true_and_false_in_things(self):
        program = main_only(("if", ("number", 0), (), ()), ("show", 1, ("number", 1)))
        widths = {thing: 1 for thing in things(program)}
        self.assertTrue(is_fit(program, 1, widths))
        for thing, bad in ((("port", 1), ("port", True)), (("test", "main", 0), ("test", "main", False))):
            changed = dict(widths)
            del changed[thing]
            changed[bad] = 1
            self.assertFalse(is_fit(program, 1, changed))
            self.assertRaises(BadWidths, first_narrow, program, changed)

    def test_the_order_of_keys_means_nothing(self):
        widths = least_widths(PROGRAM_65, 3, {0: 3})
        turned = {thing: widths[thing] for thing in reversed(list(widths))}
        self.assertTrue(is_fit(PROGRAM_65, 3, turned))
        self.assertEqual(settled_widths(PROGRAM_65, turned), [1, 3])

    def test_others(self):
        for at, program in enumerate(all_programs(40, 8)):
            chance = random.Random(at)
            hues = chance.randint(1, 5)
            widths = fit_widths(program, hues, chance)
            self.assertTrue(is_fit(program, hues, widths))
            marked = set(widths.values()) == {hues} and is_fit(program, 5, {thing: 5 for thing in widths})
            for _ in range(6):
                thing = chance.choice(things(program))
                changed = dict(widths) | {thing: chance.randint(0, hues)}
                fits = all([changed[first] >= changed[last] for first, last in flows(program)])
                fits = fits and all([changed[one] >= 1 for one in changed if is_settled(one)])
                if not marked:
                    self.assertEqual(is_fit(program, hues, changed), fits)


class FirstNarrow(unittest.TestCase):

    def test_first_flow(self):
        widths = least_widths(PROGRAM_65, 3, {0: 3})
        self.assertIsNone(first_narrow(PROGRAM_65, widths))
        self.assertEqual(first_narrow(PROGRAM_65, dict(widths) | {("port", 1): 2}), (Y, ("port", 1)))
        self.assertEqual(first_narrow(PROGRAM_65, dict(widths) | {("port", 1): 4}), (MAIN, ("port", 1)))
        self.assertEqual(first_narrow(PROGRAM_65, dict(widths) | {IF_65: 0}), (IF_65, ("port", 1)))
        self.assertEqual(first_narrow(PROGRAM_65, dict(widths) | {X: 5, TAKES: 4}), (MAIN, X))
        self.assertEqual(first_narrow(PROGRAM_65, dict(widths) | {END: 0}), (END, ("port", 0)))

    def test_they_need_not_be_fit(self):
        for width in range(6):
            for program in (PROGRAM_65, LOOPS):
                self.assertIsNone(first_narrow(program, {thing: width for thing in things(program)}))
        self.assertIsNone(first_narrow(PROGRAM_65, {thing: 5 for thing in things(PROGRAM_65)} | {LOOPING: 0}))

    def test_others(self):
        for at, program in enumerate(all_programs(60, 10)):
            chance = random.Random(at)
            widths = {thing: chance.randint(0, 5) for thing in things(program)}
            narrow = [flow for flow in flows(program) if widths[flow[0]] < widths[flow[1]]]
            self.assertEqual(first_narrow(program, widths), narrow[0] if narrow else None)

    def test_wrong(self):
        widths = {thing: 5 for thing in things(PROGRAM_65)}
        for bad in STRANGE + (list(widths.items()), dict(widths) | {X: 6}, dict(widths) | {X: -1},
                              dict(widths) | {X: True}, dict(widths) | {("port", 2): 1}, {MAIN: 5}):
            self.assertRaises(BadWidths, first_narrow, PROGRAM_65, bad)


class Settled(unittest.TestCase):

    def test_ports_and_tests(self):
        self.assertEqual(settled_widths(PROGRAM_65, least_widths(PROGRAM_65, 3, {0: 3})), [1, 3])
        self.assertEqual(settled_widths(PROGRAM_65, least_widths(PROGRAM_65, 5, {0: 3, 1: 2})), [2, 3])
        program = told("""
            size 10
            main
              if x
                y = 1
              show 0 1
        """)
        widths = least_widths(program, 5, {0: 4, "takes": 5, "loops": 3})
        self.assertEqual((widths[("test", "main", 0)], settled_widths(program, widths)), (0, [4]))
        self.assertEqual(settled_widths(program, dict(widths) | {("test", "main", 0): 2, X: 2}), [2, 4])
        self.assertEqual(settled_widths(main_only(("take", "x")), least_widths(main_only(("take", "x")), 3, {})), [])

    def test_fit_for_some_count_of_hues(self):
        program = main_only(("mark",), ("show", 0, ("number", 1)))
        for width in range(1, 6):
            widths = {thing: width for thing in things(program)}
            self.assertEqual(settled_widths(program, widths), [width])
            self.assertRaises(BadWidths, settled_widths, program, dict(widths) | {LOOPING: width % 5 + 1})
        for width in (0, 6, True, None):
            self.assertRaises(BadWidths, settled_widths, program, {thing: width for thing in things(program)})
            self.assertRaises(BadWidths, settled_widths, PROGRAM_65, {thing: width for thing in things(PROGRAM_65)})
        for bad in STRANGE:
            self.assertRaises(BadWidths, settled_widths, PROGRAM_65, bad)
        self.assertRaises(BadWidths, settled_widths, PROGRAM_65, {thing: 2 for thing in things(PROGRAM_65)} | {X: 1})


class SafeAndWhole(unittest.TestCase):

    def test_example(self):
        votes = (1, 2, 2)
        widths = least_widths(PROGRAM_65, 3, {0: 3})
        self.assertEqual(safe_things(PROGRAM_65, votes, widths, []), things(PROGRAM_65))
        self.assertEqual(safe_things(PROGRAM_65, votes, widths, [0]), [MAIN, X, ("port", 0), TAKES, END])
        self.assertEqual(safe_things(PROGRAM_65, votes, widths, [1]), things(PROGRAM_65))
        self.assertEqual(safe_things(PROGRAM_65, votes, widths, (1, 2)), [])
        found = {(): True, (0,): False, (1,): True, (2,): True, (0, 1): False, (1, 2): False}
        for struck, whole in found.items():
            self.assertIs(is_whole(PROGRAM_65, votes, widths, struck), whole)
            self.assertIs(is_whole(PROGRAM_65, votes, widths, list(struck)), whole)

    def test_things_of_no_width_are_not_safe(self):
        program = told("""
            size 10
            main
              x = 1
              show 0 2
        """)
        widths = least_widths(program, 2, {})
        self.assertEqual((widths[X], X in safe_things(program, (1, 2), widths, [])), (0, False))

    def test_all_hues_count_even_if_nothing_is_settled(self):
        program = main_only(("take", "x"))
        widths = least_widths(program, 3, {})
        self.assertEqual(safe_things(program, (1, 2, 2), widths, [0]), [MAIN, TAKES, LOOPING, END])
        self.assertEqual(safe_things(program, (1, 2, 2), widths, [0, 1]), [])
        self.assertTrue(is_whole(program, (1, 2, 2), widths, [0]))
        self.assertFalse(is_whole(program, (1, 2, 3), widths, [0]))

    def test_all_sets_of_struck_hues(self):
        for at, program in enumerate(all_programs(25, 5)):
            chance = random.Random(at)
            votes = ALL_VOTES[at % len(ALL_VOTES)]
            widths = fit_widths(program, len(votes), chance)
            counted = settled(widths) | {len(votes)}
            hues = range(len(votes))
            sets = [struck for many in range(len(votes) + 1) for struck in itertools.combinations(hues, many)]
            for struck in chance.sample(sets, min(6, len(sets))):
                below = {width: len([hue for hue in struck if hue < width]) for width in counted}
                safe = [thing for thing in things(program) if widths[thing] > 0 and all(
                    [below[width] < votes[width - 1] for width in counted if width >= widths[thing]])]
                self.assertEqual(safe_things(program, votes, widths, list(struck)), safe)
                whole = all([below[width] <= width - votes[width - 1] for width in counted])
                self.assertEqual(is_whole(program, votes, widths, list(struck)), whole)

    def test_wrong(self):
        widths = {thing: 2 for thing in things(PROGRAM_65)}
        for call in (safe_things, is_whole):
            for bad in STRANGE + ((1, 1), [1, 2], (True,)):
                self.assertRaises(BadVotes, call, PROGRAM_65, bad, None, None)
            for bad in STRANGE + ({thing: 3 for thing in widths}, {thing: 0 for thing in widths}, {MAIN: 1},
                                  dict(widths) | {X: 1}, dict(widths) | {X: True}):
                self.assertRaises(BadWidths, call, PROGRAM_65, (1, 2), bad, None)
            for bad in (None, True, 0, 1, "", "x", {}, {0: 1}, [2], [-1], [True], [False], [None], [0, 0], [1, 0],
                        (1, 1), ["0"], [[0]], [0, 1, 2], [0.5], (0, True)):
                self.assertRaises(BadStruck, call, PROGRAM_65, (1, 2), widths, bad)
            call(PROGRAM_65, (1, 2), widths, [0, 1])
            call(PROGRAM_65, (1, 2), widths, ())
            call(PROGRAM_65, votes=(1, 2), widths=widths, struck=(1,))


class Results(unittest.TestCase):

    def test_what_is_told_is_new(self):
        widths = least_widths(PROGRAM_21, 2, {})
        kept = dict(widths)
        widths[("end",)] = 7
        self.assertEqual(least_widths(PROGRAM_21, 2, {}), kept)
        wishes = {0: 1, "takes": 2}
        least_widths(PROGRAM_21, 2, wishes)
        self.assertEqual(wishes, {0: 1, "takes": 2})
        safe_things(PROGRAM_21, (1, 2), kept, []).append("more")
        settled_widths(PROGRAM_21, kept).append("more")
        self.assertEqual(safe_things(PROGRAM_21, (1, 2), kept, []),
                         [thing for thing in things(PROGRAM_21) if kept[thing] > 0])
        self.assertEqual(settled_widths(PROGRAM_21, kept), [1])
        self.assertEqual(kept, least_widths(PROGRAM_21, 2, {}))


if __name__ == "__main__":
    unittest.main()
