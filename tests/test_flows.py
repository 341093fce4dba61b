"""The things of programs, and what flows into what: [59], [60]."""

import itertools
import unittest

from hueward.errors import BadProgram, BadThing
from hueward.flows import chain, flows, reached, things
from hueward.progtexts import program_of
from tests.plain_flows import plain_flows, plain_reached, plain_things
from tests.samples import FULL, PROGRAM_16, PROGRAM_21, STRANGE, crowded_programs, lines, some_programs

MAIN = ("part", "main")
TAKES, LOOPS, END = ("takes",), ("loops",), ("end",)


def local(x, part="main"):
    return ("local", part, x)


def tested(at, part="main"):
    return ("test", part, at)


def into(program, thing):
    """The things that flow into a thing."""
    return [first for first, last in flows(program) if last == thing]


def in_main(*rows, head=()):
    """The program whose main part has these rows."""
    return program_of(lines("size 10", *head, "main", *["  " + row for row in rows]))


class Things(unittest.TestCase):

    def test_full(self):
        self.assertEqual(things(FULL), [
            ("array", "a"), ("array", "b"),
            ("part", "f"), ("result", "f"),
            ("part", "g"), local("x", "g"), local("y", "g"), local("z", "g"), tested(0, "g"), ("result", "g"),
            MAIN, local("n"), tested(2), tested(8),
            ("port", 0), ("port", 5), TAKES, LOOPS, END,
        ])

    def test_params_come_first(self):
        program = program_of(lines("size 10", "function f z y", "  b = a", "  take x", "  y = 1", "main"))
        self.assertEqual(things(program), [
            ("part", "f"), local("z", "f"), local("y", "f"), local("a", "f"), local("b", "f"), local("x", "f"),
            ("result", "f"), MAIN, TAKES, LOOPS, END,
        ])

    def test_empty(self):
        self.assertEqual(things((2, (), (), ())), [MAIN, TAKES, LOOPS, END])

    def test_ports_of_all_parts(self):
        program = program_of(lines("size 10", "function f", "  show 3 1", "  show 0 1", "main", "  show 4 2",
                                   "  show 0 2"))
        self.assertEqual(things(program)[-6:], [("port", 0), ("port", 3), ("port", 4), TAKES, LOOPS, END])

    def test_others(self):
        for program in some_programs(150) + crowded_programs(20):
            self.assertEqual(things(program), plain_things(program))


class Kinds(unittest.TestCase):
    """Each kind of flow by itself."""

    def test_numbers_read_nothing(self):
        program = in_main("x = 3", "show 0 4")
        self.assertEqual(into(program, local("x")), [MAIN])
        self.assertEqual(into(program, ("port", 0)), [MAIN, END])

    def test_let(self):
        program = in_main("x = (a[y] + z)", "w = x", "x = (x + 1)", head=["array a 1"])
        self.assertEqual(into(program, local("x")), [("array", "a"), MAIN, local("y"), local("z")])
        self.assertEqual(into(program, local("w")), [MAIN, local("x")])

    def test_cells_in_cells(self):
        program = in_main("x = a[b[y]]", head=["array a 1", "array b 1"])
        self.assertEqual(into(program, local("x")), [("array", "a"), ("array", "b"), MAIN, local("y")])

    def test_put(self):
        program = in_main("a[x] = (y * b[0])", head=["array a 1", "array b 1"])
        self.assertEqual(into(program, ("array", "a")), [("array", "b"), MAIN, local("x"), local("y")])
        self.assertEqual(into(program, ("array", "b")), [])

    def test_each_word(self):
        for sign in ("+", "-", "*", "rest", "<", "="):
            program = in_main("show 2 (x " + sign + " y)")
            self.assertEqual(into(program, ("port", 2)), [MAIN, local("x"), local("y"), END])

    def test_show(self):
        program = in_main("if t", "  show 1 x", "show 2 y")
        self.assertEqual(into(program, ("port", 1)), [MAIN, local("x"), tested(0), END])
        self.assertEqual(into(program, ("port", 2)), [MAIN, local("y"), END])

    def test_take(self):
        program = in_main("if t", "  take x", "take y")
        self.assertEqual(into(program, TAKES), [MAIN, tested(0), END])
        self.assertEqual(into(program, local("x")), [MAIN, TAKES])
        self.assertEqual(into(program, local("y")), [MAIN, TAKES])

    def test_if(self):
        program = in_main("if (x + 1)", "  if y", "    z = 1", "else", "  w = v", "u = 1")
        self.assertEqual(into(program, tested(0)), [MAIN, local("x")])
        self.assertEqual(into(program, tested(4)), [MAIN, local("y"), tested(0)])
        self.assertEqual(into(program, local("z")), [MAIN, tested(0), tested(4)])
        self.assertEqual(into(program, local("w")), [MAIN, local("v"), tested(0)])
        self.assertEqual(into(program, local("u")), [MAIN])
        self.assertEqual(into(program, LOOPS), [])

    def test_while(self):
        program = in_main("while x", "  while y", "    z = 1", "u = 1")
        self.assertEqual(into(program, tested(0)), [MAIN, local("x")])
        self.assertEqual(into(program, tested(2)), [MAIN, local("y"), tested(0)])
        self.assertEqual(into(program, local("z")), [MAIN, tested(0), tested(2)])
        self.assertEqual(into(program, local("u")), [MAIN])
        self.assertEqual(into(program, LOOPS), [tested(0), tested(2)])

    def test_run(self):
        head = ["function f p q", "  give q"]
        program = in_main("show 0 f(x, (y + z))", head=head)
        self.assertEqual(into(program, ("part", "f")), [MAIN])
        self.assertEqual(into(program, local("p", "f")), [("part", "f"), local("x")])
        self.assertEqual(into(program, local("q", "f")), [("part", "f"), local("y"), local("z")])
        self.assertEqual(into(program, ("port", 0)), [("result", "f"), MAIN, END])

    def test_run_in_a_body(self):
        program = in_main("if t", "  x = f(y)", head=["function f p"])
        self.assertEqual(into(program, ("part", "f")), [MAIN, tested(0)])
        self.assertEqual(into(program, local("p", "f")), [("part", "f"), local("y")])
        self.assertEqual(into(program, local("x")), [("result", "f"), MAIN, tested(0)])

    def test_run_in_a_test(self):
        for word, hangs in (("if", [MAIN]), ("while", [MAIN, tested(0)])):
            program = in_main(word + " (f(x) + y)", head=["function f p"])
            self.assertEqual(into(program, ("part", "f")), hangs)
            self.assertEqual(into(program, local("p", "f")), [("part", "f"), local("x")])
            self.assertEqual(into(program, tested(0)), [("result", "f"), MAIN, local("y")])

    def test_run_in_a_run(self):
        program = in_main("while f(g(x))", "  y = 1", head=["function f p", "function g p"])
        self.assertEqual(into(program, ("part", "g")), [MAIN, tested(0)])
        self.assertEqual(into(program, ("part", "f")), [MAIN, tested(0)])
        self.assertEqual(into(program, local("p", "f")), [("part", "f"), ("result", "g")])

    def test_give(self):
        program = in_main(head=["function f p", "  if p", "    give x", "  give y"])
        self.assertEqual(into(program, ("result", "f")), [("part", "f"), local("x", "f"), local("y", "f"),
                                                          tested(0, "f")])
        self.assertEqual(into(program, ("part", "f")), [tested(0, "f")])

    def test_give_in_tests_within_tests(self):
        program = in_main(head=["function f p", "  while p", "    if q", "      give 1"])
        self.assertEqual(into(program, ("part", "f")), [tested(0, "f"), tested(2, "f")])

    def test_stop(self):
        program = in_main("if x", "  stop", "show 0 1", "take y", "show 3 1")
        self.assertEqual(into(program, END), [MAIN, tested(0)])
        for thing in (("port", 0), ("port", 3), TAKES):
            self.assertIn(END, into(program, thing))
        self.assertNotIn(END, into(program, LOOPS))

    def test_end_without_a_stop(self):
        program = in_main("show 0 1")
        self.assertEqual(into(program, END), [])
        self.assertEqual(into(program, TAKES), [END])
        self.assertEqual(into(program, ("port", 0)), [MAIN, END])

    def test_parts(self):
        program = in_main("x = 1", head=["function f p", "  q = 1"])
        self.assertEqual([pair for pair in flows(program) if pair[0][0] == "part"], [
            (("part", "f"), local("p", "f")), (("part", "f"), local("q", "f")), (("part", "f"), ("result", "f")),
            (MAIN, local("x")),
        ])

    def test_locals_that_are_only_read(self):
        self.assertEqual(into(in_main("show 0 x"), local("x")), [MAIN])

    def test_mark(self):
        self.assertEqual(flows(in_main("mark")), [(END, TAKES)])
        self.assertEqual(flows(in_main("if x", "  mark")), [
            (MAIN, local("x")), (MAIN, tested(0)), (local("x"), tested(0)), (END, TAKES),
        ])

    def test_unlike_things(self):
        program = in_main("x = x", "a[a[0]] = a[1]", head=["array a 1"])
        self.assertEqual(into(program, local("x")), [MAIN])
        self.assertEqual(into(program, ("array", "a")), [MAIN])


class Flows(unittest.TestCase):

    def test_example(self):
        self.assertEqual(flows(PROGRAM_21), [
            (("array", "a"), ("port", 2)),
            (("part", "f"), local("p", "f")), (("part", "f"), ("result", "f")),
            (local("p", "f"), ("result", "f")),
            (("result", "f"), ("array", "a")),
            (MAIN, ("array", "a")), (MAIN, ("part", "f")), (MAIN, local("x")), (MAIN, ("port", 2)), (MAIN, TAKES),
            (local("x"), ("array", "a")), (local("x"), local("p", "f")),
            (TAKES, local("x")),
            (END, ("port", 2)), (END, TAKES),
        ])

    def test_each_once_and_in_order(self):
        for program in some_programs(100) + crowded_programs(20) + [FULL, PROGRAM_16]:
            order = {thing: at for at, thing in enumerate(things(program))}
            found = [(order[first], order[last]) for first, last in flows(program)]
            self.assertEqual(found, sorted(set(found)))

    def test_all_of_them(self):
        for program in some_programs(200) + some_programs(40, 60) + crowded_programs(40) + [FULL, PROGRAM_16]:
            self.assertEqual(set(flows(program)), plain_flows(program))

    def test_what_is_told_is_new(self):
        for call in (things, flows, lambda program: reached(program, MAIN), lambda program: chain(program, MAIN, MAIN)):
            kept = list(call(FULL))
            found = call(FULL)
            self.assertIs(found.__class__, list)
            found.append("more")
            self.assertEqual(call(FULL), kept)

    def test_wrong(self):
        for bad in STRANGE + (list(FULL),):
            self.assertRaises(BadProgram, things, bad)
            self.assertRaises(BadProgram, flows, bad)
            self.assertRaises(BadProgram, reached, bad, None)
            self.assertRaises(BadProgram, chain, bad, None, None)


class Reached(unittest.TestCase):

    def test_a_row(self):
        program = in_main("b = a", "c = b", "show 0 c", "d = a")
        self.assertEqual(reached(program, local("a")), [local("a"), local("b"), local("c"), local("d"), ("port", 0)])
        self.assertEqual(reached(program, local("c")), [local("c"), ("port", 0)])
        self.assertEqual(reached(program, ("port", 0)), [("port", 0)])
        self.assertEqual(reached(program, LOOPS), [LOOPS])

    def test_others(self):
        for program in some_programs(60) + crowded_programs(5):
            found = plain_flows(program)
            for thing in things(program):
                right = plain_reached(found, thing)
                self.assertEqual(reached(program, thing), [other for other in things(program) if other in right])

    def test_wrong_things(self):
        program = in_main("if x", "  show 1 x", "show 0 x")
        good = things(program)
        for bad in STRANGE + (["part", "main"], ("part",), ("part", "f"), local("y"), tested(1), tested(False),
                              tested(True), ("port", 2), ("port", False), ("port", True), ("result", "main"), "takes",
                              ["takes"], ("takes", 0), ("array", "a"), ("test", "main"), (("takes",),), ("port", [0]),
                              ("port", "0")):
            self.assertRaises(BadThing, reached, program, bad)
            self.assertRaises(BadThing, chain, program, bad, good[0])
            self.assertRaises(BadThing, chain, program, good[0], bad)
        for thing in good:
            self.assertIn(thing, reached(program, thing))


class Chains(unittest.TestCase):

    def test_itself(self):
        self.assertEqual(chain(FULL, TAKES, TAKES), [TAKES])

    def test_none(self):
        program = in_main("x = y", "show 0 x")
        self.assertIsNone(chain(program, local("x"), local("y")))
        self.assertIsNone(chain(program, ("port", 0), MAIN))

    def test_the_shortest(self):
        program = in_main("b = a", "c = b", "d = c", "d = a", "e = d", "show 0 e")
        self.assertEqual(chain(program, local("a"), ("port", 0)), [local("a"), local("d"), local("e"), ("port", 0)])

    def test_of_several_the_first(self):
        program = in_main("c = a", "b = a", "e = c", "f = b", "z = e", "z = f")
        self.assertEqual(chain(program, local("a"), local("z")), [local("a"), local("b"), local("f"), local("z")])
        program = in_main("b = a", "z = c", "c = a", "b = b", "d = b", "z = b")
        self.assertEqual(chain(program, local("a"), local("z")), [local("a"), local("b"), local("z")])
        program = in_main("b = a", "c = a", "e = b", "d = c", "z = d", "z = e")
        self.assertEqual(chain(program, local("a"), local("z")), [local("a"), local("b"), local("e"), local("z")])

    def test_others(self):
        """All shortest ways are tried one by one."""
        tried = 0
        for program in some_programs(60):
            listed = things(program)
            order = {thing: at for at, thing in enumerate(listed)}
            found = plain_flows(program)
            for first, last in itertools.islice(itertools.product(listed, listed), 0, None, 3):
                ways = [[first]]
                seen = {first}
                while ways and ways[0][-1] != last and not any(way[-1] == last for way in ways):
                    ways = [way + [two] for way in ways for one, two in found if one == way[-1] and two not in seen]
                    seen |= {way[-1] for way in ways}
                ways = [way for way in ways if way[-1] == last]
                right = min(ways, key=lambda way: [order[thing] for thing in way]) if ways else None
                self.assertEqual(chain(program, first, last), right)
                tried += 1
        self.assertGreater(tried, 2000)


if __name__ == "__main__":
    unittest.main()
