"""Codes and strikes for the tests, and the making of others."""

import random

from tests.samples import WORDS

# The example of [30].
CODE_30 = (
    (1, 2),
    10,
    ((0, "set", 0, 7), (1, "set", 0, 7), (0, "offer", 0), (1, "offer", 0), ("show", 1, 2), ("stop",)),
    (),
)

# Every instruction and every settle, of three hues.
FULL_CODE = (
    (1, 2, 2),
    100,
    (
        (0, "set", 0, 99), (1, "set", 7, 3), (2, "set", 1, 0),
        (0, "plus", 1, 2, 3), (1, "minus", 4, 5, 6), (2, "times", 7, 0, 1), (0, "rest", 2, 2, 2),
        (1, "less", 3, 4, 5), (2, "same", 6, 7, 0),
        (0, "get", 0, 2, 4, 3), (1, "put", 7, 0, 0, 7), (2, "offer", 5), (0, "offer", 0), (1, "offer", 7),
        ("show", 2, 3), ("turn", 19, 1), ("take", 7, 2), ("goto", 0), ("mark",), ("stop",),
    ),
    (0, 1, 2, 3, 4, 5, 99),
)
FULL_CODE_TEXT = "\n".join([
    "votes 1 2 2", "size 100", "bank 0 1 2 3 4 5 99",
    "0 set 0 99", "1 set 7 3", "2 set 1 0",
    "0 plus 1 2 3", "1 minus 4 5 6", "2 times 7 0 1", "0 rest 2 2 2", "1 less 3 4 5", "2 same 6 7 0",
    "0 get 0 2 4 3", "1 put 7 0 0 7", "2 offer 5", "0 offer 0", "1 offer 7",
    "show 2 3", "turn 19 1", "take 7 2", "goto 0", "mark", "stop",
])

# Each tuple of votes that there is, by its length.
VOTES = {
    1: ((1,),),
    2: ((1, 2),),
    3: ((1, 2, 2), (1, 2, 3)),
    4: ((1, 2, 2, 3), (1, 2, 3, 3), (1, 2, 2, 4), (1, 2, 3, 4)),
}
ALL_VOTES = tuple([votes for many in VOTES for votes in VOTES[many]]) + tuple([
    votes + (last,) for votes in VOTES[4] for last in (3, 4, 5)
])


def coded(*cells, votes=(1, 2), size=10, bank=()):
    """A code with these cells."""
    return (votes, size, tuple(cells), tuple(bank))


def with_cell(code, at, cell):
    """The code with another cell at an address."""
    return code[:2] + (code[2][:at] + (cell,) + code[2][at + 1:],) + code[3:]


class CodeMaker:
    """Makes codes and strikes at random, always the same ones for one seed."""

    def __init__(self, seed, most=24):
        self.chance = random.Random(seed)
        self.most = most

    def code(self, votes=None):
        chance = self.chance
        self.votes = votes or chance.choice(ALL_VOTES)
        self.hues = len(self.votes)
        self.size = chance.choice((2, 3, 5, 10, 100, 10000))
        self.bank = tuple([chance.randrange(self.size) for _ in range(chance.choice((0, 1, 2, 5)))])
        self.many = chance.randint(1, self.most)
        return (self.votes, self.size, tuple([self.cell() for _ in range(self.many)]), self.bank)

    def cell(self):
        if self.chance.random() < 0.35:
            return self.settle()
        return self.instruction(self.chance.randrange(self.hues))

    def spot(self):
        return self.chance.randrange(3) if self.chance.random() < 0.8 else self.chance.randrange(8)

    def number(self):
        return self.chance.choice((0, 1, self.size - 1, self.chance.randrange(self.size)))

    def instruction(self, hue):
        chance = self.chance
        word = chance.choice(("set", "set", "offer", "offer", "get", "put") + WORDS)
        if word == "set" or word in ("get", "put") and not self.bank:
            return (hue, "set", self.spot(), self.number())
        if word == "offer":
            return (hue, "offer", self.spot())
        if word in WORDS:
            return (hue, word, self.spot(), self.spot(), self.spot())
        base = chance.randrange(len(self.bank))
        return (hue, word, self.spot(), self.spot(), base, chance.randint(1, len(self.bank) - base))

    def settle(self):
        chance = self.chance
        word = chance.choice(("show", "show", "turn", "turn", "take", "take", "goto", "mark", "stop"))
        width = chance.randint(1, self.hues)
        if word == "show":
            return (word, chance.randint(0, 5), width)
        if word == "turn":
            return (word, chance.randrange(self.many), width)
        if word == "take":
            return (word, self.spot(), width)
        if word == "goto":
            return (word, chance.randrange(self.many))
        return (word,)

    def alike(self, votes=None, marks=True):
        """A code whose hues all do the same, whose settles have full width, and often with offers for them."""
        votes = votes or self.chance.choice(ALL_VOTES)
        one = self.code((1,))
        cells = []
        goals = {}
        for at, cell in enumerate(one[2]):
            goals[at] = len(cells)
            if isinstance(cell[0], int):
                cells.extend([(hue,) + cell[1:] for hue in range(len(votes))])
                continue
            if cell[0] == "mark" and not marks:
                cell = ("goto", at)
            if cell[0] in ("show", "turn"):
                spot = self.spot()
                cells.extend([(hue, "offer", spot) for hue in range(len(votes))])
            if cell[0] in ("show", "turn", "take"):
                cell = cell[:2] + (len(votes),)
            cells.append(cell)
        cells = [(cell[0], goals[cell[1]]) + cell[2:] if cell[0] in ("goto", "turn") else cell for cell in cells]
        return (votes, one[1], tuple(cells), one[3])

    def inputs(self):
        return [self.chance.randrange(10000) for _ in range(self.chance.randrange(6))]

    def strikes(self, code, many, steps, hues=None):
        """So many strikes, of these hues, ahead of the first so many steps."""
        found = []
        numbers = sorted([self.chance.randrange(steps) for _ in range(many)])
        for step in numbers:
            hue = self.chance.choice(hues) if hues is not None else self.chance.randrange(len(code[0]))
            found.append((step, hue) + self.struck_thing(code, hue))
        return found

    def struck_thing(self, code, hue):
        """A place of a hue and what is set there."""
        chance = self.chance
        self.votes, self.size, cells, self.bank = code
        own = [at for at, cell in enumerate(cells) if cell[0] == hue]
        word = chance.choice(("register", "register", "cell", "pointer", "slot", "code"))
        if word == "cell" and self.bank:
            return (("cell", chance.randrange(len(self.bank))), self.number())
        if word == "pointer":
            new = chance.choice((0, 9999, len(cells), chance.randrange(len(cells)), chance.randrange(len(cells))))
            return (("pointer",), new)
        if word == "slot":
            return (("slot",), chance.choice((None, self.number(), self.number())))
        if word == "code" and own:
            return (("code", chance.choice(own)), self.instruction(hue))
        return (("register", self.spot()), self.number())


def some_codes(many, most=24):
    """So many codes, made at random, always the same ones."""
    return [CodeMaker(seed, most).code() for seed in range(many)]


def codes_of_one_hue(many, most=24):
    """So many codes of one hue, made at random, always the same ones; many of them offer ahead of shows and turns."""
    makers = [CodeMaker(seed, most) for seed in range(many)]
    return [maker.alike((1,)) if seed % 3 else maker.code((1,)) for seed, maker in enumerate(makers)]
