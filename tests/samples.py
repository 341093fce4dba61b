"""Programs for the tests, and the making of others."""

import random

WORDS = ("plus", "minus", "times", "rest", "less", "same")

# The example of [16].
TEXT_16 = (
    "size 10\narray a 1 2\nfunction f x\n  give (x + a[x])\nmain\n  take y\n"
    "  while (y < 3)\n    y = f(y)\n    show 2 y\n  stop"
)
PROGRAM_16 = (
    10,
    (("a", (1, 2)),),
    (("f", ("x",), (("give", ("plus", ("local", "x"), ("cell", "a", ("local", "x")))),)),),
    (
        ("take", "y"),
        (
            "while",
            ("less", ("local", "y"), ("number", 3)),
            (("let", "y", ("run", "f", (("local", "y"),))), ("show", 2, ("local", "y"))),
        ),
        ("stop",),
    ),
)

# The example of [21].
PROGRAM_21 = (
    10,
    (("a", (3, 4)),),
    (("f", ("p",), (("give", ("times", ("local", "p"), ("number", 4))),)),),
    (
        ("take", "x"),
        ("put", "a", ("local", "x"), ("run", "f", (("local", "x"),))),
        ("show", 2, ("cell", "a", ("number", 1))),
    ),
)

# Every statement and every expression, in three parts.
FULL = (
    100,
    (("a", (1, 2, 3)), ("b", (99,))),
    (
        ("f", (), (("give", ("number", 7)),)),
        (
            "g",
            ("x", "y"),
            (
                ("if", ("less", ("local", "x"), ("local", "y")), (("give", ("run", "f", ())),), ()),
                ("put", "b", ("number", 0), ("minus", ("local", "x"), ("local", "y"))),
                ("give", ("rest", ("cell", "b", ("number", 5)), ("local", "z"))),
            ),
        ),
    ),
    (
        ("take", "n"),
        ("mark",),
        (
            "while",
            ("local", "n"),
            (
                ("let", "n", ("minus", ("local", "n"), ("number", 1))),
                (
                    "if",
                    ("same", ("local", "n"), ("number", 3)),
                    (("show", 0, ("run", "g", (("local", "n"), ("times", ("number", 2), ("local", "n"))))),),
                    (("show", 5, ("plus", ("cell", "a", ("local", "n")), ("number", 98))),),
                ),
            ),
        ),
        ("stop",),
    ),
)
FULL_TEXT = "\n".join([
    "size 100",
    "array a 1 2 3",
    "array b 99",
    "function f",
    "  give 7",
    "function g x y",
    "  if (x < y)",
    "    give f()",
    "  b[0] = (x - y)",
    "  give (b[5] rest z)",
    "main",
    "  take n",
    "  mark",
    "  while n",
    "    n = (n - 1)",
    "    if (n = 3)",
    "      show 0 g(n, (2 * n))",
    "    else",
    "      show 5 (a[n] + 98)",
    "  stop",
])

# Any values that are no names, programs, wholes and the like.
STRANGE = (None, True, False, -1, 0, 1, "", "x", (), [], {}, ("x",), ["x"], {"x": "y"}, ((),), ("main", 0, 0), 10 ** 99)


def main_only(*body, size=10, arrays=(), functions=()):
    """A program with this main part."""
    return (size, tuple(arrays), tuple(functions), tuple(body))


def lines(*rows):
    """A text of these lines."""
    return "\n".join(rows)


def nested_whiles(depth, inner):
    """A body in which a statement stands at this depth, in whiles with tests 1."""
    body = (inner,)
    for _ in range(depth - 1):
        body = (("while", ("number", 1), body),)
    return body


def nested_sums(depth):
    """An expression that is nested so deep."""
    value = ("number", 1)
    for _ in range(depth - 1):
        value = ("plus", value, ("number", 1))
    return value


class Maker:
    """Makes programs at random, always the same ones for one seed."""

    def __init__(self, seed, most=20, tests=True):
        self.chance = random.Random(seed)
        self.most = most
        self.tests = tests

    def program(self):
        chance = self.chance
        self.size = chance.choice((2, 3, 7, 10, 100, 10000))
        names = ["a", "bb", "c0"][:chance.randint(0, 2)]
        arrays = tuple([(name, self.numbers(chance.randint(1, 4))) for name in names])
        self.arrays = names
        self.runnable = {}
        functions = []
        for name in ["f", "g7", "hh"][:chance.randint(0, 3)]:
            params = tuple(chance.sample(["x", "y", "a", "f", "zz"], chance.randint(0, 3)))
            functions.append((name, params, self.part(False)))
            self.runnable[name] = len(params)
        return (self.size, arrays, tuple(functions), self.part(True))

    def numbers(self, many):
        return tuple([self.chance.randrange(self.size) for _ in range(many)])

    def part(self, is_main):
        self.is_main = is_main
        self.room = self.chance.randint(0, self.most)
        return self.body(1)

    def body(self, depth):
        found = []
        while self.room >= 4 and len(found) < 5 and self.chance.random() < 0.8:
            found.append(self.statement(depth))
        return tuple(found)

    def statement(self, depth):
        chance = self.chance
        words = ["let", "let", "put", "show", "show", "take", "stop", "mark", "give"]
        if self.tests and depth < 8:
            words += ["if", "if", "while"]
        word = chance.choice(words)
        if word == "stop" and chance.random() < 0.7:
            word = "show"
        if word == "put" and not self.arrays or word == "give" and self.is_main or word == "mark" and not self.is_main:
            word = "let"
        self.room -= 1
        if word == "let":
            return ("let", self.local(), self.expression(depth + 1))
        if word == "put":
            return ("put", chance.choice(self.arrays), self.expression(depth + 1), self.expression(depth + 1))
        if word == "show":
            return ("show", chance.randint(0, 5), self.expression(depth + 1))
        if word == "give":
            return ("give", self.expression(depth + 1))
        if word == "take":
            return ("take", self.local())
        if word == "if":
            return ("if", self.expression(depth + 1), self.body(depth + 1), self.body(depth + 1))
        if word == "while":
            return ("while", self.expression(depth + 1), self.body(depth + 1))
        return (word,)

    def local(self):
        return self.chance.choice(["x", "y", "zz", "a", "f"])

    def expression(self, depth):
        chance = self.chance
        self.room -= 1
        if depth >= 10 or self.room < 6 or chance.random() < 0.4:
            return self.leaf()
        word = chance.choice(WORDS + ("cell", "cell", "run", "run", "run"))
        if word == "cell" and self.arrays:
            return ("cell", chance.choice(self.arrays), self.expression(depth + 1))
        if word == "run" and self.runnable:
            name = chance.choice(sorted(self.runnable))
            return ("run", name, tuple([self.expression(depth + 1) for _ in range(self.runnable[name])]))
        if word in WORDS:
            return (word, self.expression(depth + 1), self.expression(depth + 1))
        return self.leaf()

    def leaf(self):
        if self.chance.random() < 0.5:
            return ("local", self.local())
        return ("number", self.chance.randrange(self.size))


def some_programs(many, most=20, tests=True):
    """So many programs, made at random, always the same ones."""
    return [Maker(seed, most, tests).program() for seed in range(many)]


class Crowder(Maker):
    """Makes programs whose parts go up to the greatest count of nodes and the greatest depth.

    The room is taken by each node as soon as it must come.
    """

    def part(self, is_main):
        self.is_main = is_main
        self.room = self.chance.choice((120, 120, 119, 40, 5))
        return self.body(1, 1)

    def body(self, depth, often=0.7):
        found = []
        while self.room >= 1 and depth <= 10 and self.chance.random() < often:
            found.append(self.statement(depth))
        return tuple(found)

    def statement(self, depth):
        words = ["stop", "take"] + ["mark"] * self.is_main
        if depth < 10 and self.room >= 2:
            words += ["let", "let", "show", "if", "if", "if", "while", "while"] + ["give"] * (not self.is_main)
        if depth < 10 and self.room >= 3 and self.arrays:
            words += ["put", "put"]
        word = self.chance.choice(words)
        self.room -= 3 if word == "put" else 1 if word in ("stop", "take", "mark") else 2
        return self.filled(word, depth)

    def filled(self, word, depth):
        if word == "stop" or word == "mark":
            return (word,)
        if word == "take":
            return (word, self.local())
        if word == "put":
            return (word, self.chance.choice(self.arrays), self.expression(depth + 1), self.expression(depth + 1))
        value = self.expression(depth + 1)
        if word == "let":
            return (word, self.local(), value)
        if word == "show":
            return (word, self.chance.randint(0, 5), value)
        if word == "give":
            return (word, value)
        if word == "while":
            return (word, value, self.body(depth + 1))
        return (word, value, self.body(depth + 1), self.body(depth + 1, 0.5))

    def expression(self, depth):
        chance = self.chance
        words = [name for name, many in self.runnable.items() if many == 0 or depth < 10 and self.room >= many]
        if depth < 10 and self.room >= 2:
            words += ["two", "two", "two"]
        if depth < 10 and self.room >= 1 and self.arrays:
            words.append("cell")
        if not words or chance.random() < 0.3:
            return self.leaf()
        word = chance.choice(words)
        if word == "two":
            self.room -= 2
            return (chance.choice(WORDS), self.expression(depth + 1), self.expression(depth + 1))
        if word == "cell":
            self.room -= 1
            return ("cell", chance.choice(self.arrays), self.expression(depth + 1))
        self.room -= self.runnable[word]
        return ("run", word, tuple([self.expression(depth + 1) for _ in range(self.runnable[word])]))


def crowded_programs(many):
    """So many programs at the limits of what a part may hold, always the same ones."""
    return [Crowder(seed).program() for seed in range(many)]
