"""Another reading of [47] and [66] to [70], which lays every single strike by itself."""

from hueward.machine import Machine

WORDS = ("same", "caught", "other", "wrong")


def judgement(row, state, right_row, right_state):
    """The word of [47] for a struck run beside the unstruck one."""
    if row == right_row and state == right_state:
        return "same"
    parts = [at for at in range(min(len(row), len(right_row))) if row[at] != right_row[at]]
    if parts or state in ("stopped", "caught") and len(row) > len(right_row):
        return "wrong"
    return "caught" if state == "caught" else "other"


def places_of(code):
    """The places of single strikes, in their order."""
    return ([("register", k) for k in range(8)] + [("cell", a) for a in range(len(code[3]))]
            + [("pointer",), ("slot",)])


def values_of(code, place):
    """The values of single strikes at a place, in their order."""
    if place == ("pointer",):
        return list(range(len(code[2]) + 1))
    return ([None] if place == ("slot",) else []) + list(range(code[1]))


class PlainCounts:
    """All single strikes on a run: a dict from each one to its word and its delay."""

    def __init__(self, code, inputs, steps):
        self.code = code
        self.steps = steps
        machine = Machine(code, inputs)
        right = Machine(code, inputs)
        right.go(steps)
        self.many = right.steps
        self.right = right
        self.strikes = {}
        for at in range(self.many):
            for hue in range(len(code[0])):
                for place in places_of(code):
                    for new in values_of(code, place):
                        self.lay(machine.copy(), at, hue, place, new)
            machine.go(1)

    def lay(self, machine, at, hue, place, new):
        """Lays one strike on a machine behind so many steps."""
        machine.strike(hue, place, new)
        machine.go(self.steps - at)
        word = judgement(machine.row, machine.state, self.right.row, self.right.state)
        self.strikes[(at, hue, place, new)] = (word, machine.steps - at)

    def tally(self, hue=None, place=None):
        """How many have each word."""
        found = {word: 0 for word in WORDS}
        for strike, (word, _) in self.strikes.items():
            if hue in (None, strike[1]) and place in (None, strike[2]):
                found[word] += 1
        return found

    def ranges(self, hue, place, at):
        """The ranges of values with one word."""
        found = []
        for new in values_of(self.code, place):
            word = self.strikes[(at, hue, place, new)][0]
            if found and found[-1][0] is not None and found[-1][2] == word:
                found[-1] = (found[-1][0], new, word)
            else:
                found.append((new, new, word))
        return found

    def worst(self):
        """The worst word and the first strike that has it."""
        for word in reversed(WORDS):
            for strike, (other, _) in self.strikes.items():
                if other == word:
                    return (word, strike)
        return None

    def delay(self):
        """The greatest delay and the first strike that has it."""
        found = [(delay, strike) for strike, (word, delay) in self.strikes.items() if word == "caught"]
        most = max([delay for delay, _ in found], default=0)
        return ([pair for pair in found if pair[0] == most] or [None])[0]


def used(code, machine, hue, place):
    """What the next step of an unstruck machine uses of a place: read, set or None; read if both."""
    if place == ("pointer",):
        return "read"
    if machine.address is None:
        return None
    cell = code[2][machine.address]
    behind = machine.copy()
    behind.go(1)
    reads, sets = set(), set()
    if isinstance(cell[0], int):
        if cell[0] != hue:
            return None
        word = cell[1]
        numbers = machine.registers(hue)
        if word in ("get", "put"):
            bank_cell = ("cell", cell[4] + numbers[cell[3]] % cell[5])
            reads.add(("register", cell[3]))
            if word == "get":
                reads.add(bank_cell)
                sets.add(("register", cell[2]))
            else:
                reads.add(("register", cell[2]))
                sets.add(bank_cell)
        elif word == "offer":
            reads.add(("register", cell[2]))
            sets.add(("slot",))
        else:
            sets.add(("register", cell[2]))
            if word != "set":
                reads |= {("register", cell[3]), ("register", cell[4])}
    elif cell[0] in ("show", "turn"):
        if hue < cell[2]:
            reads.add(("slot",))
        elif behind.state != "caught":
            sets.add(("slot",))
    elif cell[0] == "take" and hue < cell[2]:
        sets.add(("register", cell[1]))
    elif cell[0] == "mark":
        reads |= {one for one in places_of(code) if one[0] in ("register", "cell")}
        if behind.state != "caught":
            sets.add(("slot",))
    return "read" if place in reads else "set" if place in sets else None


def plain_spans(code, inputs, steps, hue, place):
    """The spans of a place."""
    machine = Machine(code, inputs)
    words = []
    while machine.state == "running" and machine.steps < steps:
        words.append(used(code, machine, hue, place))
        machine.go(1)
    found = []
    first = 0
    for at, word in enumerate(words):
        if word is not None:
            found.append((first, at, word))
            first = at + 1
    if first < len(words):
        found.append((first, len(words) - 1, "kept"))
    return found
