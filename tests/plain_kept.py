"""Another reading of [52] to [54]: a plain machine that keeps its checkpoints as copies of what it had."""

from tests.plain_machine import PlainHue, PlainMachine


class PlainKept:
    """A machine that holds its items back until a mark."""

    def __init__(self, code, inputs, strikes=()):
        self.code = code
        self.machine = PlainMachine(code, inputs, strikes)
        self.out = []
        self.legs = []
        self.struck = set()
        self.first = 0
        self.undone = 0
        self.keep()

    @property
    def state(self):
        return self.machine.state

    @property
    def held(self):
        return self.machine.row

    @property
    def steps(self):
        return self.machine.steps

    @property
    def left(self):
        return self.machine.left

    def keep(self):
        """Keeps what all hues have."""
        hue = self.machine.hues[0]
        self.kept = (hue.pointer, tuple(hue.registers), tuple(hue.cells), tuple(self.machine.left))

    def strike(self, hue, place, new):
        if self.state == "running":
            self.machine.strike(self.machine.hues[hue], place, new)
            self.struck.add(hue)

    def go(self, steps):
        for _ in range(steps):
            if self.state == "running":
                self.step()

    def step(self):
        machine = self.machine
        before = [hue.pointer for hue in machine.hues]
        for step, hue, place, new in machine.strikes:
            if step == machine.steps:
                self.struck.add(hue)
                before[hue] = new if place == ("pointer",) else before[hue]
        machine.step()
        if machine.state == "caught":
            self.back()
        elif machine.state == "stopped":
            self.give("stopped")
        else:
            # Enough pointers agreed on it, or the step would be caught.
            at = [at for at in before if before.count(at) >= self.code[0][-1]][0]
            if self.code[2][at] == ("mark",):
                self.give("kept")
                self.keep()

    def give(self, word):
        """Gives out what is held."""
        self.out += self.machine.row
        self.machine.row = []
        self.end(word)

    def back(self):
        """Goes back to what was kept."""
        machine = self.machine
        address, registers, cells, left = self.kept
        machine.hues = [PlainHue(self.code, hue) for hue in range(len(self.code[0]))]
        for hue in machine.hues:
            hue.registers, hue.cells, hue.pointer = list(registers), list(cells), address
        machine.left, machine.row, machine.state = list(left), [], "running"
        self.undone += machine.steps - self.first
        self.end("back")

    def end(self, word):
        self.legs.append((self.machine.steps - self.first, tuple(sorted(self.struck)), word))
        self.first = self.machine.steps
        self.struck = set()

    def told(self):
        """All that a Kept tells."""
        return (self.out, self.held, self.state, self.steps, self.left, self.kept, self.legs)
