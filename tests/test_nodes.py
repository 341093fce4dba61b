"""Parts, nodes and places: [12]."""

import unittest

from hueward.errors import BadNode, BadPlace, NoPart
from hueward.programs import depth_of, is_program, node_at, nodes, part_names, with_node
from tests.samples import FULL, PROGRAM_16, PROGRAM_21, STRANGE, main_only, nested_sums, nested_whiles, some_programs

ONE = ("number", 1)
TWO = ("number", 2)
BAD_PLACES = STRANGE + (
    ("main",), ("main", 0, 0), ("main", -1), ("main", 11), ("main", 12), ("main", "0"), ("main", True), ("main", None),
    ("g", 0), ("", 0), (None, 0), (["main"], 0), ({}, 0), (0, "main"), ["main", 0], ("f", 5), ("main", 10 ** 99),
    "main", ("main", (0,)),
)


def words(program, part):
    """The words of the nodes of a part."""
    return [node[0] for node in nodes(program, part)]


class Reading(unittest.TestCase):

    def test_part_names(self):
        self.assertEqual(part_names(FULL), ("f", "g", "main"))
        self.assertEqual(part_names((2, (), (), ())), ("main",))
        program = (2, (), (("z", (), ()), ("b", (), ()), ("m", (), ())), ())
        self.assertEqual(part_names(program), ("z", "b", "m", "main"))

    def test_the_example(self):
        found = nodes(PROGRAM_16, "main")
        self.assertEqual([node[0] for node in found],
                         ["take", "while", "less", "local", "number", "let", "run", "local", "show", "local", "stop"])
        self.assertEqual(depth_of(PROGRAM_16, ("main", 7)), 4)
        self.assertEqual(found[4], ("number", 3))
        self.assertEqual(words(PROGRAM_16, "f"), ["give", "plus", "local", "cell", "local"])

    def test_the_order_of_each(self):
        statements = (
            ("let", "x", ONE), ("put", "a", ONE, TWO), ("if", ONE, (("stop",),), (("mark",),)),
            ("while", ONE, (("stop",), ("mark",))), ("show", 0, ONE), ("take", "x"), ("stop",), ("mark",),
        )
        program = main_only(*statements, arrays=[("a", (1,))])
        self.assertEqual(nodes(program, "main"), [
            statements[0], ONE, statements[1], ONE, TWO, statements[2], ONE, ("stop",), ("mark",),
            statements[3], ONE, ("stop",), ("mark",), statements[4], ONE, statements[5], ("stop",), ("mark",),
        ])

    def test_the_order_of_expressions(self):
        inner = ("less", ("cell", "a", TWO), ("run", "f", (ONE, ("run", "f", (TWO, ("local", "x"))))))
        program = main_only(("show", 1, inner), arrays=[("a", (1,))], functions=[("f", ("x", "y"), ())])
        self.assertEqual(nodes(program, "main"), [
            ("show", 1, inner), inner, inner[1], TWO, inner[2], ONE, inner[2][2][1], TWO, ("local", "x"),
        ])
        self.assertEqual([depth_of(program, ("main", at)) for at in range(9)], [1, 2, 3, 4, 3, 4, 4, 5, 5])

    def test_depths_of_bodies(self):
        body = (("if", ONE, (("stop",), ("if", TWO, (), (("mark",),))), (("stop",),)), ("stop",))
        program = main_only(*body)
        self.assertEqual([depth_of(program, ("main", at)) for at in range(8)], [1, 2, 2, 2, 3, 3, 2, 1])
        deep = main_only(*nested_whiles(10, ("stop",)))
        self.assertEqual(depth_of(deep, ("main", 18)), 10)

    def test_node_at_each_place(self):
        for program in [FULL, PROGRAM_16, PROGRAM_21] + some_programs(50, 60):
            for part in part_names(program):
                found = nodes(program, part)
                for at, node in enumerate(found):
                    self.assertEqual(node_at(program, (part, at)), node)
                    self.assertEqual(with_node(program, (part, at), node), program)
                end = (part, len(found))
                self.assertRaises(BadPlace, node_at, program, end)
                self.assertRaises(BadPlace, depth_of, program, end)
                self.assertRaises(BadPlace, with_node, program, end, ("stop",))

    def test_empty_parts(self):
        self.assertEqual(nodes((2, (), (), ()), "main"), [])
        self.assertRaises(BadPlace, node_at, (2, (), (), ()), ("main", 0))

    def test_wrong_places(self):
        for place in BAD_PLACES:
            self.assertRaises(BadPlace, node_at, PROGRAM_16, place)
            self.assertRaises(BadPlace, depth_of, PROGRAM_16, place)
            self.assertRaises(BadPlace, with_node, PROGRAM_16, place, ("stop",))

    def test_wrong_parts(self):
        for part in ("h", "a", "Main", "main ", "x", None, 0, ["main"], ("main",), {}):
            with self.assertRaises(NoPart) as caught:
                nodes(PROGRAM_16, part)
            self.assertEqual(caught.exception.part, part)


class Exchanging(unittest.TestCase):

    KINDS = (
        ("let", "q", ONE), ("put", "a", ONE, ("local", "q")), ("if", ONE, (("stop",),), (("stop",), ("stop",))),
        ("while", ("local", "w"), (("show", 3, ONE),)), ("show", 4, TWO), ("take", "q"), ("give", ONE),
        ("stop",), ("mark",), ("number", 0), ("local", "q"), ("cell", "a", ONE), ("run", "f", (ONE, TWO)),
        ("run", "g", ()), ("plus", ONE, TWO), ("minus", ONE, TWO), ("times", ONE, TWO), ("rest", ONE, TWO),
        ("less", ONE, TWO), ("same", ONE, TWO),
    )
    STATEMENTS = ("let", "put", "if", "while", "show", "take", "give", "stop", "mark")

    def setUp(self):
        body = (
            ("put", "a", ("cell", "a", ONE), ("run", "f", (("plus", ONE, TWO), ("local", "z")))),
            ("if", ("local", "x"), (("take", "x"), ("while", ONE, (("stop",),))), (("let", "y", TWO),)),
            ("show", 1, ("less", ("run", "g", ()), TWO)),
        )
        functions = (("f", ("x", "y"), (("give", ONE),)), ("g", (), ()), ("h", ("z",), body + (("give", TWO),)))
        self.program = (10, (("a", (1, 2)),), functions, body + (("mark",),))

    def test_with_each_kind_of_node(self):
        for part in ("h", "main"):
            count = len(nodes(self.program, part))
            for at in range(count):
                old = node_at(self.program, (part, at))
                for new in self.KINDS:
                    fits = (old[0] in self.STATEMENTS) == (new[0] in self.STATEMENTS)
                    if new[0] == "give" and part == "main" or new[0] == "mark" and part != "main":
                        fits = False
                    self.check(part, at, new, fits)

    def check(self, part, at, new, fits):
        """Exchanges the node at a place and looks whether all others stayed."""
        place = (part, at)
        if not fits:
            self.assertRaises(BadNode, with_node, self.program, place, new)
            return
        changed = with_node(self.program, place, new)
        self.assertTrue(is_program(changed))
        self.assertEqual(node_at(changed, place), new)
        self.assertEqual(depth_of(changed, place), depth_of(self.program, place))
        before, behind = nodes(self.program, part), nodes(changed, part)
        held = self.count(before[at])
        self.assertEqual(before[at + held:], behind[at + self.count(new):])
        depth = [depth_of(self.program, (part, k)) for k in range(at + 1)]
        for k in range(at):
            holds = depth[k] < min(depth[k + 1:])
            self.assertEqual(before[k] == behind[k], not holds or before[at] == new)
        for other in part_names(self.program):
            if other != part:
                self.assertEqual(nodes(changed, other), nodes(self.program, other))
        self.assertEqual(with_node(changed, place, before[at]), self.program)

    def count(self, node):
        """How many nodes a node and what stands in it are."""
        many = 1 if node and isinstance(node[0], str) else 0
        for item in node:
            if isinstance(item, tuple):
                many += self.count(item)
        return many

    def test_strange_nodes(self):
        for part in part_names(self.program):
            for at in range(len(nodes(self.program, part))):
                for node in STRANGE + (["number", 1], ["stop"], ("number", 10), ("local", "if"), ("cell", "b", ONE),
                                       ("run", "h", (ONE,)), ("run", "f", (ONE,)), ("let", "x"), (("stop",),), ("end",),
                                       ("plus", ONE, ["number", 1]), ("while", ONE, []), ("if", ONE, ())):
                    if node == ("run", "h", (ONE,)) and part == "main":
                        continue
                    self.assertRaises(BadNode, with_node, self.program, (part, at), node)

    def test_too_many_nodes(self):
        program = main_only(*(("stop",),) * 118, ("show", 0, ONE))
        self.assertRaises(BadNode, with_node, program, ("main", 119), ("plus", ONE, ONE))
        self.assertRaises(BadNode, with_node, program, ("main", 0), ("show", 0, ONE))
        self.assertTrue(with_node(program, ("main", 118), ("stop",)))

    def test_too_deep(self):
        program = main_only(("show", 0, nested_sums(9)))
        self.assertEqual(depth_of(program, ("main", 9)), 10)
        self.assertRaises(BadNode, with_node, program, ("main", 9), ("plus", ONE, ONE))
        self.assertTrue(with_node(program, ("main", 9), TWO))

    def test_functions_that_stand_behind(self):
        self.assertRaises(BadNode, with_node, self.program, ("f", 1), ("run", "f", (ONE, ONE)))
        self.assertRaises(BadNode, with_node, self.program, ("f", 1), ("run", "g", ()))
        self.assertTrue(with_node(self.program, ("h", 1), ("run", "g", ())))

    def test_equal_nodes_at_other_places_stay(self):
        program = main_only(("show", 0, ("plus", ONE, ONE)), ("show", 0, ONE))
        changed = with_node(program, ("main", 3), TWO)
        self.assertEqual(changed[3], (("show", 0, ("plus", ONE, TWO)), ("show", 0, ONE)))


if __name__ == "__main__":
    unittest.main()
