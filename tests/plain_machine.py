"""Another reading of [26] and [27], written as plainly as possible, to compare machines with."""


def value_of(word, one, other, size):
    """The value of a word."""
    table = {
        "plus": lambda: (one + other) % size,
        "minus": lambda: (one - other + size) % size,
        "times": lambda: one * other % size,
        "rest": lambda: one - one // other * other if other else 0,
        "less": lambda: 1 if one < other else 0,
        "same": lambda: 1 if one == other else 0,
    }
    return table[word]()


def enough(values, need):
    """The value that stands so often; None if there is none."""
    found = [value for value in values if value is not None and sum([value == other for other in values]) >= need]
    return found[0] if found else None


class PlainHue:
    """All that a hue has."""

    def __init__(self, code, hue):
        self.registers = [0] * 8
        self.cells = list(code[3])
        self.pointer = 0
        self.slot = None
        self.own = {at: cell for at, cell in enumerate(code[2]) if cell[0] == hue}

    def told(self):
        own = tuple([self.own[at] for at in sorted(self.own)])
        return (tuple(self.registers), tuple(self.cells), self.pointer, self.slot, own)


class PlainMachine:
    """A machine."""

    def __init__(self, code, inputs, strikes=()):
        self.code = code
        self.votes, self.size, self.program, self.bank = code
        self.hues = [PlainHue(code, hue) for hue in range(len(self.votes))]
        self.left = list(inputs)
        self.strikes = list(strikes)
        self.row = []
        self.steps = 0
        self.state = "running"

    def moment(self):
        return (tuple([hue.told() for hue in self.hues]), (self.state, tuple(self.left)))

    def go(self, steps):
        for _ in range(steps):
            if self.state == "running":
                self.step()

    def step(self):
        for step, hue, place, new in self.strikes:
            if step == self.steps:
                self.strike(self.hues[hue], place, new)
        self.steps += 1
        at = enough([hue.pointer for hue in self.hues], self.votes[-1])
        if at is None or at >= len(self.program):
            self.state = "caught"
        elif isinstance(self.program[at][0], int):
            self.point(at + 1)
            hue = self.hues[self.program[at][0]]
            self.instruct(hue, hue.own[at])
        else:
            self.settle(at, self.program[at])

    def strike(self, hue, place, new):
        if place[0] == "register":
            hue.registers[place[1]] = new
        if place[0] == "cell":
            hue.cells[place[1]] = new
        if place[0] == "pointer":
            hue.pointer = new
        if place[0] == "slot":
            hue.slot = new
        if place[0] == "code":
            hue.own[place[1]] = new

    def point(self, at):
        for hue in self.hues:
            hue.pointer = at

    def empty(self):
        for hue in self.hues:
            hue.slot = None

    def instruct(self, hue, cell):
        word = cell[1]
        if word == "set":
            hue.registers[cell[2]] = cell[3]
        elif word == "offer":
            hue.slot = hue.registers[cell[2]]
        elif word == "get":
            hue.registers[cell[2]] = hue.cells[cell[4]:cell[4] + cell[5]][hue.registers[cell[3]] % cell[5]]
        elif word == "put":
            hue.cells[cell[4] + hue.registers[cell[3]] % cell[5]] = hue.registers[cell[2]]
        else:
            one, other = hue.registers[cell[3]], hue.registers[cell[4]]
            hue.registers[cell[2]] = value_of(word, one, other, self.size)

    def settle(self, at, cell):
        word = cell[0]
        if word in ("show", "turn"):
            number = enough([hue.slot for hue in self.hues[:cell[2]]], self.votes[cell[2] - 1])
            if number is None:
                self.state = "caught"
                return
            self.empty()
            self.point(cell[1] if word == "turn" and number else at + 1)
            if word == "show":
                self.row.append(("show", cell[1], number))
        elif word == "take":
            number = self.left.pop(0) % self.size if self.left else 0
            for hue in self.hues[:cell[2]]:
                hue.registers[cell[1]] = number
            self.row.append(("take", number))
            self.point(at + 1)
        elif word == "goto":
            self.point(cell[1])
        elif word == "stop":
            self.row.append(("stop",))
            self.state = "stopped"
            self.point(at + 1)
        else:
            self.mark(at)

    def mark(self, at):
        state = enough([(hue.registers, hue.cells) for hue in self.hues], self.votes[-1])
        if state is None:
            self.state = "caught"
            return
        for number, hue in enumerate(self.hues):
            hue.registers, hue.cells = list(state[0]), list(state[1])
            hue.own = PlainHue(self.code, number).own
        self.empty()
        self.point(at + 1)
