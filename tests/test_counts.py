"""Counts of single strikes: [66] to [71]."""

import random
import unittest

from hueward.counts import longest_delay, spans, tally, tally_at, value_ranges, worst_strike
from hueward.errors import BadCode, BadHue, BadInputs, BadPlace, BadStep, BadSteps
from hueward.machine import Machine, first_parting
from hueward.thresholds import judged
from tests.coding import CODE_30, FULL_CODE, CodeMaker, coded
from tests.compiling import LOOPS, PROGRAM_16, PROGRAM_21, RUNS, made, told
from tests.plain_counts import WORDS, PlainCounts, places_of, plain_spans, values_of
from tests.samples import STRANGE

# The example at the end of [71].
CODE_71 = coded(
    (0, "set", 0, 1), (1, "set", 0, 1), (0, "offer", 0), (1, "offer", 0), ("show", 0, 2), ("stop",), size=2,
)
SOME_VOTES = ((1,), (1,), (1, 2), (1, 2), (1, 2, 2), (1, 2, 3), (1, 2, 2, 3), (1, 2, 3, 4), (1, 2, 2, 3, 3))
LONG = told("""
    size 10000
    array a 3 1 4 1 5
    function f x y
      if (x < y)
        give (x * y)
      a[x] = y
      give (x rest 7)
    main
      take n
      while (i < n)
        i = (i + 1)
        a[i] = f(a[(i - 1)], 50)
        if ((i rest 2) = 0)
          show 1 (a[i] + i)
      show 2 i
      stop
""")


def small_code(seed, most=16):
    """A small code: one whose hues all do the same, one at random, or one with some cells changed."""
    maker = CodeMaker(seed, most)
    votes = maker.chance.choice(SOME_VOTES)
    while True:
        code = maker.code(votes) if seed % 3 == 1 else maker.alike(votes)
        if code[1] <= 5 and len(code[2]) <= 30:
            break
    if seed % 3 == 2:
        cells = list(code[2])
        maker.votes, maker.size, _, maker.bank = code
        maker.hues, maker.many = len(votes), len(cells)
        for _ in range(maker.chance.randint(1, 3)):
            cells[maker.chance.randrange(len(cells))] = maker.cell()
        code = code[:2] + (tuple(cells),) + code[3:]
    return maker, code


class BesideEach(unittest.TestCase):
    """All counts beside those that lay every single strike by itself."""

    def check(self, code, inputs, steps, chance):
        plain = PlainCounts(code, inputs, steps)
        found = tally(code, inputs, steps)
        self.assertEqual(found, plain.tally())
        self.assertEqual(list(found), list(WORDS))
        self.assertEqual(worst_strike(code, inputs, steps), plain.worst())
        self.assertEqual(longest_delay(code, inputs, steps), plain.delay())
        hues = range(len(code[0]))
        for hue in hues:
            self.assertEqual(tally(code, inputs, steps, hue), plain.tally(hue))
        for place in chance.sample(places_of(code), 3) + [("pointer",), ("slot",)]:
            hue = chance.choice(hues)
            self.assertEqual(tally_at(code, inputs, steps, hue, place), plain.tally(hue, place))
            self.assertEqual(spans(code, inputs, steps, hue, place), plain_spans(code, inputs, steps, hue, place))
            if plain.many:
                at = chance.randrange(plain.many)
                ranges = value_ranges(code, inputs, steps, hue, place, at)
                self.assertEqual(ranges, plain.ranges(hue, place, at))
        return found

    def check_some(self, seeds, most, steps):
        seen = {word: 0 for word in WORDS}
        for seed in seeds:
            maker, code = small_code(seed, most)
            found = self.check(code, maker.inputs(), maker.chance.choice(steps), maker.chance)
            for word in WORDS:
                seen[word] += found[word] > 0
        return seen

    def test_short_runs(self):
        self.check_some(range(150), 10, (0, 1, 2, 5, 9))

    def test_longer_runs(self):
        seen = self.check_some(range(200, 350), 20, (12, 20, 40))
        self.assertGreater(min(seen.values()), 4, seen)

    def test_long_codes(self):
        self.check_some(range(500, 520), 28, (40, 60))

    def test_by_hand(self):
        """Marks of several hues, puts at unlike cells, turns at struck slots, loops that go round for ever."""
        marks = coded(
            (0, "set", 0, 1), (1, "set", 0, 1), (2, "set", 0, 1), (0, "put", 0, 1, 0, 2), (1, "put", 0, 1, 0, 2),
            (2, "put", 0, 1, 0, 2), ("mark",), (0, "get", 2, 0, 0, 2), (0, "offer", 2), (1, "offer", 2), ("show", 0, 2),
            ("take", 3, 2), ("mark",), ("stop",), votes=(1, 2, 3), size=3, bank=(0, 2),
        )
        turns = coded(
            (0, "plus", 0, 0, 1), (0, "put", 0, 0, 0, 3), (0, "get", 1, 0, 0, 3), (0, "offer", 1), ("turn", 0, 1),
            (0, "offer", 0), ("show", 2, 1), ("goto", 0), votes=(1,), size=4, bank=(1, 0, 2),
        )
        rounds = coded(
            ("take", 0, 1), (0, "offer", 0), ("turn", 4, 1), ("goto", 1), (0, "offer", 1), ("turn", 0, 1), ("stop",),
            votes=(1,), size=3,
        )
        empty = coded(("mark",), (0, "set", 7, 1), ("mark",), ("goto", 0), votes=(1,), size=2)
        for code in (marks, turns, rounds, empty, CODE_71):
            for votes in ((code[0],) if code != marks else ((1, 2, 3), (1, 2, 2))):
                for steps in (3, 13, 14, 30):
                    self.check((votes,) + code[1:], [2, 1, 1], steps, random.Random(steps))

    def check_cells(self, *cells, votes=(1,), size=10, bank=(), inputs=(), steps=80):
        """A code made by hand; how many wrong ones there are."""
        code = coded(*cells, votes=votes, size=size, bank=bank)
        return self.check(code, list(inputs), steps, random.Random(0))

    def test_puts_at_other_cells(self):
        """A struck index leads the number astray, and what was at the right cell stays."""
        for get in ((0, "get", 2, 3, 0, 2), (0, "get", 2, 3, 0, 1)):
            self.check_cells(
                (0, "set", 1, 5), (0, "put", 1, 0, 0, 2), get, (0, "offer", 2), ("show", 0, 1), (0, "set", 3, 1),
                (0, "get", 2, 3, 0, 2), (0, "offer", 2), ("show", 1, 1), ("stop",), bank=(1, 2),
            )
            self.check_cells((0, "set", 1, 5), (0, "put", 1, 0, 0, 2), get, (0, "offer", 2), ("show", 0, 1), ("stop",),
                             bank=(1, 2))

    def test_marks_that_follow_the_struck_hue(self):
        """Two hues differ; the third one, which is struck, tells which of them all hues become like."""
        found = self.check_cells(
            (0, "set", 0, 1), (1, "set", 0, 2), (2, "set", 0, 1), ("mark",), *[(hue, "offer", 0) for hue in range(3)],
            ("show", 0, 3), ("stop",), votes=(1, 2, 2), bank=(4,),
        )
        self.assertGreater(min(found["wrong"], found["caught"]), 0)

    def test_runs_that_are_not_sure_or_not_full(self):
        """With fewer votes than hues single strikes can still do something."""
        offers = [(hue, "offer", 0) for hue in range(3)]
        three = [(hue, "set", 0, 1) for hue in range(3)]
        found = self.check_cells(*three[:2], (2, "set", 0, 2), *offers, ("show", 0, 3), ("stop",), votes=(1, 2, 2))
        self.assertGreater(found["caught"], 0)
        found = self.check_cells(*three, *offers, ("show", 0, 1), ("stop",), votes=(1, 2, 2))
        self.assertGreater(found["wrong"], 0)
        found = self.check_cells(*three, (2, "set", 3, 1), ("mark",), *offers, ("show", 0, 3), votes=(1, 2, 2))
        self.assertGreater(found["caught"], 0)
        found = self.check_cells(*three, *offers, ("show", 0, 3), *three, votes=(1, 2, 2))
        self.assertEqual(found["same"], sum(found.values()))

    def test_loops_that_end_at_last(self):
        """Struck runs that go round, and differ from round to round in a register, a bank cell or the inputs alone."""
        head = [(0, "offer", 0), ("turn", 3, 1), ("stop",)]
        tail = [("goto", 4), (0, "offer", 1), ("show", 0, 1), ("stop",)]
        found = self.check_cells(*head, (0, "set", 2, 1), (0, "plus", 1, 1, 2), (0, "same", 3, 1, 4), (0, "offer", 3),
                                 ("turn", 9, 1), *tail)
        self.assertGreater(found["wrong"], 0)
        found = self.check_cells(
            *head, (0, "set", 2, 1), (0, "get", 1, 5, 0, 1), (0, "plus", 1, 1, 2), (0, "put", 1, 5, 0, 1),
            (0, "same", 3, 1, 6), (0, "offer", 3), (0, "set", 1, 0), (0, "set", 3, 0), ("turn", 13, 1), *tail, bank=(0,),
            steps=150,
        )
        self.assertGreater(found["wrong"], 0)
        found = self.check_cells((0, "offer", 0), ("turn", 3, 1), ("goto", 2), ("take", 5, 1), (0, "offer", 5),
                                 ("turn", 3, 1), ("stop",), inputs=(5, 5, 5, 5, 5), steps=60)
        self.assertGreater(found["wrong"], 0)

    def test_runs_that_leave_a_loop_one_by_one(self):
        """Of those led along together some go round for ever."""
        found = self.check_cells((0, "offer", 1), ("turn", 3, 1), ("stop",), (0, "times", 1, 1, 1), (0, "set", 2, 6),
                                 (0, "same", 3, 1, 2), (0, "offer", 3), ("turn", 9, 1), ("goto", 3), (0, "offer", 1),
                                 ("show", 0, 1), ("stop",), steps=100)
        self.assertGreater(min(found["wrong"], found["other"]), 0)
        # Those that leave count down for some rounds, while the first one stays the same.
        found = self.check_cells(
            (0, "offer", 1), ("turn", 3, 1), ("stop",), (0, "set", 5, 1), (0, "minus", 1, 1, 5), (0, "set", 6, 4),
            (0, "times", 1, 1, 6), (0, "less", 7, 4, 1), (0, "minus", 1, 1, 7), (0, "same", 3, 1, 5), (0, "offer", 3),
            ("turn", 13, 1), ("goto", 7), (0, "offer", 1), ("show", 0, 1), ("stop",), size=20, steps=45,
        )
        self.assertGreater(min(found["wrong"], found["other"]), 0)

    def test_what_is_needed_later(self):
        """Struck values that stay where they are, while others are made of them."""
        for way in (("goto", 2), ("take", 7, 1), (0, "set", 6, 1), (0, "offer", 5), ("mark",), (1, "set", 0, 1)):
            for votes in ((1,), (1, 2)):
                if way[0] == 1 and len(votes) == 1 or way[0] == "goto" and len(votes) == 2:
                    continue
                self.check_cells((0, "plus", 1, 0, 2), way, (0, "plus", 4, 0, 1), (0, "offer", 4), ("show", 0, 1),
                                 ("stop",), votes=votes, steps=20)
        self.check_cells(
            (0, "get", 1, 6, 0, 1), (0, "set", 6, 1), (0, "put", 5, 6, 0, 2), (0, "get", 2, 7, 0, 1),
            (0, "plus", 3, 1, 2), (0, "offer", 3), ("show", 0, 1), ("stop",), bank=(3, 4), steps=20,
        )
        self.check_cells(
            (0, "get", 1, 6, 1, 1), (0, "set", 6, 1), (0, "put", 5, 6, 1, 2), (0, "get", 2, 7, 1, 1),
            (0, "plus", 3, 1, 2), (0, "offer", 3), ("show", 0, 1), ("stop",), bank=(1, 3, 4), steps=20,
        )
        self.check_cells((0, "plus", 1, 0, 2), (0, "put", 5, 6, 0, 2), (0, "plus", 4, 0, 1), (0, "offer", 4),
                         ("show", 0, 1), ("stop",), bank=(3, 4), steps=20)

    def test_pointers_that_lead_to_one_address(self):
        """Runs that come to one address in one step differ in the slot, a register or a bank cell alone."""
        self.check_cells((0, "set", 0, 1), (0, "offer", 0), ("goto", 4), ("stop",), ("show", 0, 1), ("stop",), steps=20)
        self.check_cells((0, "set", 0, 1), (0, "set", 1, 2), ("goto", 4), ("stop",), (0, "plus", 0, 0, 1),
                         (0, "offer", 0), ("show", 0, 1), ("stop",), steps=20)
        self.check_cells((0, "set", 0, 1), (0, "put", 0, 1, 0, 1), (0, "set", 0, 5), ("goto", 5), ("stop",),
                         (0, "get", 0, 1, 0, 1), (0, "offer", 0), ("show", 0, 1), ("stop",), bank=(3,), steps=20)

    def test_caught_at_the_fetch(self):
        for votes in ((1,), (1, 2), (1, 2, 2)):
            hues = range(len(votes))
            code = coded(("take", 0, len(votes)), *[(hue, "offer", 0) for hue in hues], ("show", 0, len(votes)),
                         *[(hue, "set", 1, 0) for hue in hues], votes=votes, size=3)
            found = self.check(code, [2], 100, random.Random(0))
            self.assertEqual(sum(found.values()), Machine(code, []).steps + self.all_of(code, [2], 100))

    def all_of(self, code, inputs, steps):
        """How many single strikes there are, by the fact of [69]."""
        one = Machine(code, inputs)
        one.go(steps)
        bank, size = len(code[3]), code[1]
        return one.steps * len(code[0]) * ((8 + bank) * size + len(code[2]) + 1 + size + 1)

    def test_how_many_there_are(self):
        for seed in range(60):
            maker, code = small_code(seed)
            found = tally(code, [1], 30)
            self.assertEqual(sum(found.values()), self.all_of(code, [1], 30))
            parts = [tally(code, [1], 30, hue) for hue in range(len(code[0]))]
            places = [tally_at(code, [1], 30, hue, place) for hue in range(len(code[0])) for place in places_of(code)]
            for word in WORDS:
                self.assertEqual(found[word], sum([part[word] for part in parts]))
                self.assertEqual(found[word], sum([part[word] for part in places]))


class Example(unittest.TestCase):

    def test_spans(self):
        self.assertEqual(spans(CODE_71, [], 6, 0, ("register", 0)), [(0, 0, "set"), (1, 2, "read"), (3, 5, "kept")])
        self.assertEqual(spans(CODE_71, [], 6, 0, ("slot",)), [(0, 2, "set"), (3, 4, "read"), (5, 5, "kept")])
        self.assertEqual(spans(CODE_71, [], 6, 1, ("pointer",)), [(at, at, "read") for at in range(6)])
        self.assertEqual(spans(CODE_71, [], 6, 0, ("register", 3)), [(0, 5, "kept")])

    def test_tallies(self):
        for place, same, caught in (
            (("register", 0), 10, 2), (("slot",), 14, 4), (("pointer",), 6, 36), (("register", 5), 12, 0),
        ):
            self.assertEqual(tally_at(CODE_71, [], 6, 0, place), {"same": same, "caught": caught, "other": 0, "wrong": 0})
        self.assertEqual(tally(CODE_71, [], 6, 0), {"same": 114, "caught": 42, "other": 0, "wrong": 0})
        self.assertEqual(tally(CODE_71, [], 6, 1), {"same": 116, "caught": 40, "other": 0, "wrong": 0})
        self.assertEqual(tally(CODE_71, [], 6), {"same": 230, "caught": 82, "other": 0, "wrong": 0})

    def test_ranges(self):
        found = value_ranges(CODE_71, [], 6, 0, ("slot",), 3)
        self.assertEqual(found, [(None, None, "caught"), (0, 0, "caught"), (1, 1, "same")])
        found = value_ranges(CODE_71, [], 6, 0, ("pointer",), 3)
        self.assertEqual(found, [(0, 2, "caught"), (3, 3, "same"), (4, 6, "caught")])
        self.assertEqual(value_ranges(CODE_71, [], 6, 0, ("slot",), 5), [(None, None, "same"), (0, 1, "same")])

    def test_worst_and_longest(self):
        self.assertEqual(worst_strike(CODE_71, [], 6), ("caught", (0, 0, ("pointer",), 1)))
        self.assertEqual(longest_delay(CODE_71, [], 6), (4, (1, 0, ("register", 0), 0)))


class Spans(unittest.TestCase):

    def test_each_kind_of_cell(self):
        places = (("register", 0), ("register", 1), ("register", 2), ("cell", 0), ("cell", 1), ("slot",))
        for cell, read, sets in (
            ((0, "set", 0, 1), "", "0"), ((0, "plus", 0, 1, 2), "12", "0"), ((0, "minus", 1, 1, 2), "12", ""),
            ((0, "get", 0, 1, 0, 2), "13", "0"), ((0, "get", 1, 1, 1, 1), "14", ""), ((0, "put", 0, 1, 0, 2), "01", "3"),
            ((0, "put", 2, 2, 1, 1), "2", "4"), ((0, "offer", 2), "2", "5"), (("show", 0, 1), "", "5"),
            (("take", 1, 1), "", ""), (("take", 2, 2), "", "2"), (("mark",), "01234", "5"), (("goto", 0), "", ""),
            (("stop",), "", ""), ((1, "plus", 0, 1, 2), "", ""), ((1, "offer", 0), "", ""),
        ):
            # What hue 0 does is looked at; a show or turn below it is that of hue 1, which becomes hue 0.
            code = coded(cell, bank=(5, 6))
            hue = 0
            if cell == ("show", 0, 1) or cell == ("take", 1, 1):
                code = coded((0, "offer", 0), cell, bank=(5, 6))
                hue = 1
            for at, place in enumerate(places):
                word = "read" if str(at) in read else "set" if str(at) in sets else "kept"
                steps = len(code[2])
                found = spans(code, [], steps, hue, place)
                self.assertEqual(found, [(0, steps - 1, word)], (cell, place))

    def test_settles_of_slots(self):
        offers = [(hue, "offer", 0) for hue in range(3)]
        code = coded(*offers, ("show", 0, 2), ("turn", 0, 3), ("stop",), votes=(1, 2, 2))
        self.assertEqual(spans(code, [], 9, 0, ("slot",)), [(0, 0, "set"), (1, 3, "read"), (4, 4, "read")])
        self.assertEqual(spans(code, [], 9, 2, ("slot",)), [(0, 2, "set"), (3, 3, "set"), (4, 4, "read")])
        # The turn is caught, since all slots are empty.
        caught = coded(("turn", 0, 2), votes=(1, 2, 2))
        self.assertEqual(spans(caught, [], 9, 2, ("slot",)), [(0, 0, "kept")])
        self.assertEqual(spans(caught, [], 9, 1, ("slot",)), [(0, 0, "read")])

    def test_marks(self):
        code = coded((0, "set", 1, 1), ("mark",), ("stop",), bank=(3,))
        self.assertEqual(spans(code, [], 9, 0, ("slot",)), [(0, 1, "kept")])
        self.assertEqual(spans(code, [], 9, 1, ("cell", 0)), [(0, 1, "read")])

    def test_a_caught_fetch_reads_the_pointer_alone(self):
        code = coded(("take", 0, 1), votes=(1,))
        self.assertEqual(spans(code, [], 9, 0, ("pointer",)), [(0, 0, "read"), (1, 1, "read")])
        self.assertEqual(spans(code, [], 9, 0, ("register", 0)), [(0, 0, "set"), (1, 1, "kept")])

    def test_no_steps(self):
        self.assertEqual(spans(CODE_71, [], 0, 0, ("slot",)), [])

    def test_no_gaps(self):
        for seed in range(100):
            maker, code = small_code(seed)
            one = Machine(code, [1, 2])
            one.go(25)
            for place in places_of(code):
                found = spans(code, [1, 2], 25, 0, place)
                self.assertEqual([at for first, last, _ in found for at in range(first, last + 1)],
                                 list(range(one.steps)))
                self.assertNotIn("kept", [word for _, _, word in found[:-1]])

    def test_one_outcome_in_each(self):
        for seed in range(40):
            maker, code = small_code(seed)
            for place in places_of(code):
                for first, last, word in spans(code, [1, 2], 12, 0, place):
                    found = [value_ranges(code, [1, 2], 12, 0, place, at) for at in range(first, last + 1)]
                    self.assertEqual(found, [found[0]] * len(found))
                    if word != "read":
                        self.assertEqual({one[2] for one in found[0]}, {"same"})

    def test_they_hang_on_no_votes(self):
        for seed in range(60):
            maker = CodeMaker(seed)
            code = maker.alike((1, 2, 2))
            if first_parting(code, [3, 1], 30) is None:
                for votes in ((1, 2, 3), (1, 2, 2)):
                    for place in places_of(code):
                        one = spans((votes,) + code[1:], [3, 1], 30, 2, place)
                        self.assertEqual(one, spans(code, [3, 1], 30, 2, place))


class Facts(unittest.TestCase):
    """[71]."""

    def test_fewer_votes_than_hues(self):
        for seed in range(100):
            maker = CodeMaker(seed)
            code = maker.alike(maker.chance.choice(((1, 2, 2), (1, 2, 2, 3), (1, 2, 3, 3, 4))))
            one = Machine(code, [1, 2])
            one.go(40)
            if first_parting(code, [1, 2], 40) is None:
                self.assertEqual(tally(code, [1, 2], 40)["same"], sum(tally(code, [1, 2], 40).values()))
                self.assertEqual(worst_strike(code, [1, 2], 40), ("same", (0, 0, ("register", 0), 0)))
                self.assertIsNone(longest_delay(code, [1, 2], 40))

    def test_all_votes_are_needed(self):
        for seed in range(100):
            maker = CodeMaker(seed)
            code = maker.alike(maker.chance.choice(((1, 2), (1, 2, 3), (1, 2, 2, 4))))
            if first_parting(code, [1, 2], 40) is None and code[1] <= 100:
                found = tally(code, [1, 2], 40)
                self.assertEqual((found["other"], found["wrong"]), (0, 0))

    def test_the_others_may_be_exchanged(self):
        right = coded((0, "set", 0, 4), (1, "set", 0, 4), (0, "offer", 0), (1, "offer", 0), ("show", 0, 2), ("stop",))
        other = coded((0, "set", 0, 4), (1, "set", 5, 4), (0, "offer", 0), (1, "offer", 5), ("show", 0, 2), ("stop",))
        self.assertEqual(tally(right, [], 9, 0), tally(other, [], 9, 0))

    def test_all_words_of_one_hue(self):
        code = coded((0, "offer", 0), ("turn", 0, 1), (0, "offer", 1), ("show", 0, 1), ("stop",), votes=(1,), size=3)
        found = tally(code, [], 9)
        self.assertGreater(min(found.values()), 0, found)
        for at in range(5):
            ranges = value_ranges(code, [], 9, 0, ("pointer",), at)
            self.assertEqual(ranges[-1], (5, 5, "caught"))


class Large(unittest.TestCase):
    """Sizes and codes for which the strikes are too many to lay each by itself."""

    def check(self, code, inputs, steps, seed, many=40):
        chance = random.Random(seed)
        machine = Machine(code, inputs)
        machine.go(steps)
        for _ in range(many):
            at, hue = chance.randrange(machine.steps), chance.randrange(len(code[0]))
            place = chance.choice(places_of(code))
            ranges = value_ranges(code, inputs, steps, hue, place, at)
            values = values_of(code, place)
            self.assertEqual((ranges[0][0], ranges[-1][1]), (values[0], values[-1]))
            for first, last, word in chance.sample(ranges, min(4, len(ranges))):
                for new in {first, last}:
                    self.assertEqual(judged(code, inputs, [(at, hue, place, new)], steps), word)
        return machine

    def test_compiled_codes(self):
        for seed, program in enumerate((LONG, LOOPS, PROGRAM_16, PROGRAM_21, RUNS[0], RUNS[3])):
            for votes in ((1,), (1, 2), (1, 2, 2), (1, 2, 3)):
                code = made(program, votes)
                if code is not None:
                    self.check(code, [6, 3], 1500, seed, 12)

    def test_counts_fit_together(self):
        for votes in ((1,), (1, 2), (1, 2, 2)):
            code = made((1000,) + LONG[1:], votes)
            machine = Machine(code, [4])
            machine.go(5000)
            self.assertEqual(machine.state, "stopped")
            found = tally(code, [4], 5000, 0)
            all_of = machine.steps * ((8 + len(code[3])) * 1000 + len(code[2]) + 1 + 1001)
            self.assertEqual(sum(found.values()), all_of)
            word, strike = worst_strike(code, [4], 5000)
            self.assertEqual(word, {1: "wrong", 2: "caught", 3: "same"}[len(votes)])
            self.assertEqual(judged(code, [4], [strike], 5000), word)
            delay = longest_delay(code, [4], 5000)
            if delay is None:
                self.assertEqual(found["caught"], 0)
            else:
                one = Machine(code, [4], [delay[1]])
                one.go(5000)
                self.assertEqual((one.state, one.steps - delay[1][0]), ("caught", delay[0]))

    def test_tallies_of_places_beside_ranges(self):
        """Each span adds what the ranges of its first step tell, as often as it has steps."""
        for votes, program in (((1, 2), LONG), ((1,), LONG), ((1, 2), RUNS[3])):
            code = made(program, votes)
            chance = random.Random(len(votes))
            for place in chance.sample(places_of(code), 3):
                found = {word: 0 for word in WORDS}
                for first, last, _ in spans(code, [3, 2], 900, 0, place):
                    for low, high, word in value_ranges(code, [3, 2], 900, 0, place, first):
                        found[word] += (last - first + 1) * (1 if low is None else high - low + 1)
                self.assertEqual(tally_at(code, [3, 2], 900, 0, place), found)


class Errors(unittest.TestCase):

    def test_code_inputs_and_steps(self):
        for function in (
            lambda *rest: spans(*rest, None, None), lambda *rest: value_ranges(*rest, None, None, None),
            lambda *rest: tally(*rest), lambda *rest: tally(*rest, 7), lambda *rest: tally_at(*rest, None, None),
            lambda *rest: worst_strike(*rest), lambda *rest: longest_delay(*rest),
        ):
            for bad in STRANGE:
                self.assertRaises(BadCode, function, bad, None, None)
            for bad in (None, [True], [10000], {}, [1] * 401):
                self.assertRaises(BadInputs, function, CODE_71, bad, None)
            for bad in (None, True, -1, 1000001, "1", []):
                self.assertRaises(BadSteps, function, CODE_71, [], bad)

    def test_hue(self):
        for bad in STRANGE + (2,):
            if bad.__class__ is int and 0 <= bad <= 1:
                continue
            self.assertRaises(BadHue, spans, CODE_71, [], 6, bad, None)
            self.assertRaises(BadHue, value_ranges, CODE_71, [], 6, bad, None, None)
            self.assertRaises(BadHue, tally_at, CODE_71, [], 6, bad, None)
            if bad is not None:
                self.assertRaises(BadHue, tally, CODE_71, [], 6, bad)

    def test_place(self):
        for bad in STRANGE + (("register",), ("register", 8), ("register", True), ("cell", 0), ("cell",), ("slot", 0),
                              ["slot"], ("code", 0), ("pointer", 0), "slot"):
            self.assertRaises(BadPlace, spans, CODE_71, [], 6, 0, bad)
            self.assertRaises(BadPlace, value_ranges, CODE_71, [], 6, 0, bad, None)
            self.assertRaises(BadPlace, tally_at, CODE_71, [], 6, 0, bad)
        self.assertRaises(BadPlace, tally_at, FULL_CODE, [], 6, 0, ("cell", 7))
        tally_at(FULL_CODE, [], 6, 0, ("cell", 6))

    def test_at(self):
        for bad in (None, -1, 6, True, "1", [0], 1000000):
            self.assertRaises(BadStep, value_ranges, CODE_71, [], 100, 0, ("slot",), bad)
        value_ranges(CODE_71, [], 100, 0, ("slot",), 5)
        self.assertRaises(BadStep, value_ranges, CODE_71, [], 3, 0, ("slot",), 3)
        self.assertRaises(BadStep, value_ranges, CODE_71, [], 0, 0, ("slot",), 0)

    def test_no_steps_at_all(self):
        self.assertEqual(tally(CODE_30, [], 0), {"same": 0, "caught": 0, "other": 0, "wrong": 0})
        self.assertIsNone(worst_strike(CODE_30, [], 0))
        self.assertIsNone(longest_delay(CODE_30, [], 0))


if __name__ == "__main__":
    unittest.main()
