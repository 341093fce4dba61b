"""Compiled code with lesser widths, and what it keeps under strikes: [63], [64], [65]."""

import itertools
import random
import unittest

from hueward.compiling import compiled
from hueward.codes import instructions, is_code
from hueward.machine import Machine, first_parting, struck
from hueward.programs import nodes, part_names
from hueward.widths import is_fit, is_whole, least_widths, safe_things
from tests.coding import ALL_VOTES, CodeMaker
from tests.compiling import all_programs, fit_widths, is_beginning, machine_of, made, raise_all, run_of, shown_at, told

LOOPING = ("loops",)
VOTES = (1, 2, 2)


def raised(program, hues, **widths):
    """The least widths, but for locals of main of these names, results and parts as told, and what flows into them."""
    found = least_widths(program, hues, {})
    for name, width in widths.items():
        thing = ("local", "main", name)
        if name.startswith("part_") or name.startswith("result_"):
            thing = tuple(name.split("_"))
        elif "_" in name:
            thing = ("local",) + tuple(name.split("_"))
        elif ("array", name) in found:
            thing = ("array", name)
        found[thing] = max(found[thing], width)
    raise_all(program, found)
    return found


def own(code, hue):
    """The instructions of a hue, without its number."""
    return [cell[1:] for _, cell in instructions(code, hue)]


def counts(code):
    """How many instructions each hue has."""
    return [len(instructions(code, hue)) for hue in range(len(code[0]))]


def settles_of(code, word):
    """The settles with a word."""
    return [cell for cell in code[2] if cell[0] == word]


def is_within_row(one, other):
    """Whether the items of one list are in another one, in their sequence."""
    found = iter(other)
    return all([item in found for item in one])


class Statements(unittest.TestCase):
    """Which hues do what, statement by statement."""

    def check(self, program, widths, right, votes=VOTES):
        """Checks which hues have any instructions."""
        self.assertTrue(is_fit(program, len(votes), widths))
        code = compiled(program, votes, widths)
        self.assertTrue(is_code(code))
        self.assertEqual([many > 0 for many in counts(code)], [hue < right for hue in range(len(votes))])
        return code

    def test_let_is_for_its_local(self):
        program = told("""
            size 10
            main
              x = (y + 1)
        """)
        for width in range(4):
            widths = raised(program, 3, x=width, y=3)
            self.check(program, widths, width)

    def test_put_is_for_its_array(self):
        program = told("""
            size 10
            array a 1 2
            main
              a[x] = (y + 1)
        """)
        for width in range(4):
            self.check(program, raised(program, 3, a=width, x=3, y=3), width)

    def test_show_is_for_its_port(self):
        program = told("""
            size 10
            main
              show 4 (y + 1)
        """)
        for width in (1, 2, 3):
            widths = least_widths(program, 3, {4: width})
            widths[("local", "main", "y")] = 3
            widths[("part", "main")] = 3
            code = self.check(program, widths, width)
            self.assertEqual(settles_of(code, "show"), [("show", 4, width)])
            self.assertEqual([own(code, hue)[-1][0] for hue in range(width)], ["offer"] * width)

    def test_if_is_for_its_test(self):
        program = told("""
            size 10
            main
              if (y + 1)
                x = 2
              else
                x = 3
        """)
        for width in range(4):
            widths = raised(program, 3, y=3)
            widths[("test", "main", 0)] = width
            code = self.check(program, widths, width)
            self.assertEqual(settles_of(code, "turn"), [("turn", cell[1], width) for cell in settles_of(code, "turn")])
            self.assertEqual(len(settles_of(code, "turn")), min(1, width))
            if width:
                inner = self.check(program, dict(widths) | {("local", "main", "x"): 1}, width)
                many = [one - other for one, other in zip(counts(inner), counts(code))]
                self.assertTrue(many[0] > 0 and many[1:] == [0, 0])

    def test_while_is_for_its_test(self):
        program = told("""
            size 10
            main
              while y
                y = 0
        """)
        for width in (1, 2, 3):
            code = self.check(program, least_widths(program, 3, {"loops": width}), width)
            self.assertEqual([cell[2] for cell in settles_of(code, "turn")], [width])

    def test_take_is_for_its_local(self):
        program = told("""
            size 10
            main
              take x
        """)
        for width in range(4):
            code = self.check(program, raised(program, 3, x=width), width)
            self.assertEqual([cell[2] for cell in settles_of(code, "take")], [max(1, width)])

    def test_words_of_no_width(self):
        program = told("""
            size 10
            array a 1
            main
              x = a[((x + y) * a[x])]
              mark
        """)
        self.check(program, least_widths(program, 3, {}), 3)
        program = program[:3] + (program[3][:1],)
        self.check(program, least_widths(program, 3, {}), 0)

    def test_stop_and_loops_without_widths(self):
        program = told("""
            size 10
            main
              stop
        """)
        self.check(program, least_widths(program, 3, {}), 0)


class Runs(unittest.TestCase):

    def test_left_out(self):
        program = told("""
            size 10
            array b 1
            function f p
              b[0] = p
            main
              y = f((y + 1))
              show 0 1
        """)
        widths = least_widths(program, 3, {})
        self.assertEqual(widths[("part", "f")], 0)
        with_it = compiled(program, VOTES, raised(program, 3, part_f=1))
        without = compiled(program, VOTES, widths)
        self.assertEqual(len(settles_of(without, "goto")), 0)
        self.assertGreater(len(settles_of(with_it, "goto")), 1)
        self.assertEqual(counts(without)[1:], [0, 0])

    def test_not_the_runs_in_arguments(self):
        program = told("""
            size 10
            array b 1
            function f p
              b[0] = p
            function g q
              show 3 q
              give 4
            main
              y = f(g(7))
              if g(8)
                z = 1
        """)
        widths = least_widths(program, 3, {3: 2})
        self.assertEqual((widths[("part", "f")], widths[("part", "g")], widths[("test", "main", 4)]), (0, 2, 0))
        code = compiled(program, VOTES, widths)
        self.assertEqual(machine_of(code, [], 2000).row, [("show", 3, 7), ("show", 3, 8), ("stop",)])
        self.assertEqual([cell for cell in settles_of(code, "turn") if cell[2] != 3], [])

    def test_done_whoever_reads_the_result(self):
        program = told("""
            size 10
            function f p
              show 1 p
              give (p + 1)
            main
              y = f(2)
        """)
        for width in (1, 2, 3):
            widths = least_widths(program, 3, {1: width})
            self.assertEqual((widths[("local", "main", "y")], widths[("result", "f")]), (0, 0))
            code = compiled(program, VOTES, widths)
            self.assertEqual(machine_of(code, [], 1000).row, [("show", 1, 2), ("stop",)])

    def test_arguments_are_for_their_params(self):
        program = told("""
            size 10
            function f p q
              show 1 p
              x = q
            main
              y = f((v + 1), (w + 1))
        """)
        base = least_widths(program, 3, {})
        self.assertEqual(base[("local", "f", "q")], 0)
        code = compiled(program, VOTES, base)
        for p, q in ((2, 0), (1, 1), (1, 2), (3, 3), (2, 1)):
            widths = least_widths(program, 3, {1: p})
            widths[("local", "f", "q")] = q
            raise_all(program, widths)
            more = [one - other for one, other in zip(counts(compiled(program, VOTES, widths)), counts(code))]
            for_p = [1 <= hue < p for hue in range(3)]
            for_q = [hue < q for hue in range(3)]
            self.assertEqual([many > 0 for many in more], [one or other for one, other in zip(for_p, for_q)])
            for hue, other in itertools.combinations(range(3), 2):
                if (for_p[hue], for_q[hue]) == (for_p[other], for_q[other]):
                    self.assertEqual(more[hue], more[other])

    def test_gives_are_for_their_results(self):
        program = told("""
            size 10
            function f p
              give (p + 2)
            main
              y = f(1)
              show 0 1
        """)
        widths = raised(program, 3, part_f=1, f_p=0)
        base = counts(compiled(program, VOTES, widths))
        for width in (1, 2, 3):
            widths = raised(program, 3, part_f=1, result_f=width)
            params = dict(widths) | {("result", "f"): 0}
            more = [one - other for one, other in zip(counts(compiled(program, VOTES, widths)),
                                                      counts(compiled(program, VOTES, params)))]
            self.assertEqual([many > 0 for many in more], [hue < width for hue in range(3)])
        self.assertEqual(base[1], base[2])

    def test_zeroing_is_for_the_local(self):
        program = told("""
            size 10
            function f
              show 1 (2 + 1)
              y = x
            main
              z = f()
        """)
        base = least_widths(program, 3, {})
        for width in (1, 2, 3):
            widths = dict(base) | {("local", "f", "x"): width}
            raise_all(program, widths)
            more = [one - other for one, other in zip(counts(compiled(program, VOTES, widths)),
                                                      counts(compiled(program, VOTES, base)))]
            self.assertEqual([many > 0 for many in more], [hue < width for hue in range(3)])

    def test_the_way_back_is_by_all_hues(self):
        for size, runs in ((2, 2), (2, 3), (10, 2), (10, 1)):
            program = told("size " + str(size) + "\n" + """
function f
  show 1 1
main
""".strip("\n") + "\n" + "\n".join(["  y = f()"] * runs))
            widths = least_widths(program, 3, {})
            code = compiled(program, VOTES, widths)
            turns = settles_of(code, "turn")
            self.assertEqual([cell[2] for cell in turns], [3] * len(turns))
            self.assertEqual(len(turns) > 0, runs > 1)
            self.assertEqual([many > 0 for many in counts(code)], [True, runs > 1, runs > 1])
            self.assertEqual(own(code, 1), own(code, 2))
            row = machine_of(code, [], 3000).row
            self.assertEqual(row, [("show", 1, 1)] * runs + [("stop",)])


class Facts(unittest.TestCase):

    def test_sure_with_the_row_of_the_program(self):
        seen = 0
        for at, program in enumerate(all_programs(120, 40)):
            chance = random.Random(at)
            votes = ALL_VOTES[at % len(ALL_VOTES)]
            code = made(program, votes, fit_widths(program, len(votes), chance))
            if code is None:
                continue
            inputs = [chance.randrange(10000) for _ in range(6)]
            self.assertIsNone(first_parting(code, inputs, 3000))
            machine, run = machine_of(code, inputs, 3000), run_of(program, inputs, 3000)
            self.assertTrue(is_beginning(machine.row, run.row))
            if machine.state == "stopped" and run.state == "stopped":
                self.assertEqual((machine.row, machine.left), (run.row, run.left))
            if run.state == "running":
                self.assertEqual(machine.state, "running")
            seen += len(machine.row)
        self.assertGreater(seen, 500)

    def test_all_items_come(self):
        for at, program in enumerate(all_programs(60, 20)):
            chance = random.Random(at)
            code = made(program, VOTES, fit_widths(program, 3, chance))
            run = run_of(program, [at, 3, 5], 150)
            if code is not None:
                machine = Machine(code, [at, 3, 5])
                while len(machine.row) < len(run.row) and machine.steps < 200000 and machine.state == "running":
                    machine.go(500)
                self.assertEqual(machine.row[:len(run.row)], run.row)

    def test_settles_have_the_widths_of_ports_and_locals(self):
        for at, program in enumerate(all_programs(60, 20)):
            widths = fit_widths(program, 3, random.Random(at))
            code = made(program, VOTES, widths)
            if code is None:
                continue
            for _, port, width in settles_of(code, "show"):
                self.assertEqual(width, widths[("port", port)])
            allowed = [widths[thing] for thing in widths if thing[0] == "test"] + [3]
            for cell in settles_of(code, "turn"):
                self.assertIn(cell[2], allowed)
            takes = [node[1] for part in part_names(program) for node in nodes(program, part) if node[0] == "take"]
            if takes:
                allowed = [max(1, widths[thing]) for thing in widths if thing[0] == "local"]
                for cell in settles_of(code, "take"):
                    self.assertIn(cell[2], allowed)

    def test_what_the_instructions_of_a_hue_hang_on(self):
        """Equal sets, equal instructions; greater ones, the same and maybe more between them."""
        alike = within = 0
        for at, program in enumerate(all_programs(50, 20)[::2]):
            chance = random.Random(at)
            found = []
            for votes in ((1, 2), VOTES, (1, 2, 3), (1, 2, 2, 3)):
                for _ in range(3):
                    widths = fit_widths(program, len(votes), chance)
                    code = made(program, votes, widths)
                    if code is None:
                        continue
                    parts = {thing for thing in widths if thing[0] == "part" and widths[thing] > 0}
                    for hue in range(len(votes)):
                        wide = {thing for thing in widths if widths[thing] > hue}
                        found.append((wide, parts, own(code, hue)))
            for one, other in itertools.combinations(found, 2):
                for less, more in ((one, other), (other, one)):
                    if less[0] == more[0] and less[1] == more[1]:
                        self.assertEqual(less[2], more[2])
                        alike += 1
                    elif less[0] <= more[0] and less[1] <= more[1]:
                        self.assertTrue(is_within_row(less[2], more[2]))
                        within += 1
        self.assertGreater(alike, 1000)
        self.assertGreater(within, 1000)

    def test_hues_that_have_none(self):
        seen = 0
        for at, program in enumerate(all_programs(80, 20)):
            runs = [node for part in part_names(program) for node in nodes(program, part) if node[0] == "run"]
            for votes in (VOTES, (1, 2, 2, 3, 3)):
                widths = fit_widths(program, len(votes), random.Random(at))
                code = made(program, votes, widths)
                for hue in range(len(votes)):
                    if code is not None and not runs and max(widths.values()) <= hue:
                        self.assertEqual(own(code, hue), [])
                        seen += 1
        self.assertGreater(seen, 20)


def targeted(code, inputs, hues, many, chance):
    """Strikes just ahead of settles, and others."""
    machine = Machine(code, inputs)
    steps = []
    while machine.state == "running" and machine.steps < 1500:
        if machine.address is not None and code[2][machine.address][0] in ("show", "turn", "take"):
            steps.append(machine.steps)
        machine.go(1)
    found = []
    for _ in range(many):
        hue = chance.choice(hues)
        if steps and chance.random() < 0.6:
            found.append((chance.choice(steps), hue, ("slot",), chance.choice((None, 0, 1, chance.randrange(code[1])))))
        else:
            maker = CodeMaker(0)
            maker.chance = chance
            found.append((chance.randrange(max(1, machine.steps)), hue) + maker.struck_thing(code, hue))
    return sorted(found, key=lambda strike: strike[0])


class Struck(unittest.TestCase):

    def check(self, program, votes, widths, code, inputs, hues, strikes):
        """Checks all that [64] says of a struck run; whether it has another row than the unstruck one."""
        one = struck(code, inputs, strikes, 3000)
        unstruck = machine_of(code, inputs, 3000)
        run = run_of(program, inputs, 3000)
        for thing in safe_things(program, votes, widths, hues):
            if thing[0] != "port" and thing != ("takes",):
                continue
            shown, right = shown_at(one.row, thing), shown_at(run.row, thing)
            self.assertTrue(is_beginning(shown, right))
            self.assertFalse(one.state == "stopped" and len(shown) < len(right))
            self.assertFalse(run.state == "stopped" and len(right) < len(shown))
            if widths[thing] <= widths[LOOPING] and len(shown) > len(right):
                longer = run_of(program, inputs, 30000)
                self.assertTrue(is_beginning(shown, shown_at(longer.row, thing)))
                self.assertLessEqual(len(shown), len(shown_at(longer.row, thing)))
        if is_whole(program, votes, widths, hues):
            self.assertEqual((one.row, one.state), (unstruck.row, unstruck.state))
            self.assertEqual(one.steps, unstruck.steps)
        return one.row != unstruck.row

    def test_safe_ports(self):
        tried = parted = 0
        for at, program in enumerate(all_programs(150, 40)):
            chance = random.Random(at)
            votes = ALL_VOTES[at % len(ALL_VOTES)]
            widths = fit_widths(program, len(votes), chance)
            code = made(program, votes, widths)
            if code is None:
                continue
            inputs = [chance.randrange(10000) for _ in range(6)]
            for _ in range(3):
                hues = sorted(chance.sample(range(len(votes)), chance.randint(1, len(votes))))
                strikes = targeted(code, inputs, hues, chance.randint(1, 8), chance)
                tried += 1
                parted += self.check(program, votes, widths, code, inputs, hues, strikes)
        self.assertGreater(tried, 300)
        self.assertGreater(parted, 60)

    def test_example(self):
        program = told("""
            size 10
            main
              take x
              take y
              show 0 x
              if y
                show 1 y
        """)
        widths = least_widths(program, 3, {0: 3})
        code = compiled(program, VOTES, widths)
        chance = random.Random(1)
        seen = set()
        for at in range(300):
            inputs = [chance.randrange(10), chance.randrange(10)]
            one = struck(code, inputs, targeted(code, inputs, [0], 4, chance), 1000)
            shown = shown_at(one.row, ("port", 0))
            self.assertTrue(shown == inputs[:1] or one.state == "caught" and shown == [])
            seen.add(tuple(shown_at(one.row, ("port", 1))) == tuple(inputs[1:] if inputs[1] else []))
        self.assertEqual(seen, {True, False})


class ExactlySoMany(unittest.TestCase):

    def test_so_many_strikes_show_another_number(self):
        tried = 0
        for at, program in enumerate(all_programs(80, 20)):
            chance = random.Random(at)
            votes = ALL_VOTES[at % len(ALL_VOTES)]
            widths = fit_widths(program, len(votes), chance)
            code = made(program, votes, widths)
            if code is None:
                continue
            machine = Machine(code, [at, 5])
            seen = set()
            while machine.state == "running" and machine.steps < 1500:
                cell = code[2][machine.address]
                if cell[0] == "show" and cell[1] not in seen:
                    seen.add(cell[1])
                    self.strike(code, [at, 5], machine.steps, cell, chance)
                    tried += 1
                machine.go(1)
        self.assertGreater(tried, 60)

    def strike(self, code, inputs, step, cell, chance):
        """Strikes just so many hues, and one less, ahead of the show at a step."""
        _, port, width = cell
        need = code[0][width - 1]
        right = machine_of(code, inputs, step + 1).row[-1]
        other = (right[2] + 1 + chance.randrange(code[1] - 1)) % code[1]
        hues = chance.sample(range(width), need)
        strikes = [(step, hue, ("slot",), other) for hue in hues]
        self.assertEqual(struck(code, inputs, strikes, step + 1).row[-1], ("show", port, other))
        fewer = struck(code, inputs, strikes[1:], step + 1)
        self.assertTrue(fewer.state == "caught" or fewer.row[-1] == right)


if __name__ == "__main__":
    unittest.main()
