"""Another reading of [77] to [79]: a bench that does all its deeds anew whenever it is asked."""

from tests.plain_machine import PlainMachine, enough


class Refused(Exception):
    """A deed or a question that is answered by an error; its name."""


class Moment:
    """A code, its paper, inputs, strikes, how many steps were done, and which strikes were done by hand."""

    def __init__(self, code, paper, inputs):
        self.code = code
        self.paper = paper
        self.inputs = list(inputs)
        self.strikes = []
        self.hands = []
        self.steps = 0

    def copied(self):
        twin = Moment(self.code, self.paper, self.inputs)
        twin.strikes, twin.hands, twin.steps = list(self.strikes), list(self.hands), self.steps
        return twin

    def machine(self):
        """A machine behind these steps, and with the strikes ahead of the next one."""
        machine = PlainMachine(self.code, self.inputs, self.strikes)
        machine.go(self.steps)
        if machine.state == "running":
            for step, hue, place, new in self.strikes:
                if step == self.steps:
                    machine.strike(machine.hues[hue], place, new)
            machine.strikes = []
        return machine

    def sights(self):
        """The kind of the sights and the list of them."""
        machine = self.machine()
        if machine.state != "caught":
            raise Refused("NotCaught")
        pointers = [hue.pointer for hue in machine.hues]
        at = enough(pointers, self.code[0][-1])
        if at is None or at >= len(self.code[2]):
            return "pointers", pointers
        cell = self.code[2][at]
        if cell == ("mark",):
            return "states", [(tuple(hue.registers), tuple(hue.cells)) for hue in machine.hues]
        return "slots", [hue.slot for hue in machine.hues[:cell[2]]]

    def fits(self, most):
        """The sights that fit."""
        kind, sights = self.sights()
        found = []
        for sight in sights:
            if kind == "pointers" and sight >= len(self.code[2]) or sight is None:
                continue
            if len([other for other in sights if other != sight]) <= most and sight not in found:
                found.append(sight)
        return sorted(found)

    def blames(self, most):
        found = self.fits(most)
        kind, sights = self.sights()
        return tuple([hue for hue, sight in enumerate(sights) if sight not in found]) if found else None


def led(now, most):
    """The moment behind a lead."""
    found = now.fits(most)
    if len(found) != 1:
        raise Refused("Unclear")
    kind, sights = now.sights()
    now = now.copied()
    now.steps -= 1
    for hue, sight in enumerate(sights):
        if kind == "states":
            for word, ones, others in zip(("register", "cell"), sight, found[0]):
                for at, (one, other) in enumerate(zip(ones, others)):
                    if one != other:
                        now.strikes.append((now.steps, hue, (word, at), other))
                        now.hands.append(False)
        elif sight != found[0]:
            now.strikes.append((now.steps, hue, (kind[:-1],), found[0]))
            now.hands.append(False)
    if len(now.strikes) > 400:
        raise Refused("Full")
    return now


def gone(now, steps):
    """The moment so many steps later."""
    if now.steps + steps > 10 ** 6:
        raise Refused("BadSteps")
    now = now.copied()
    machine = PlainMachine(now.code, now.inputs, now.strikes)
    machine.go(now.steps + steps)
    now.steps = machine.steps
    return now


def hit(now, hue, place, new):
    """The moment behind a strike."""
    if now.machine().state != "running":
        raise Refused("Ended")
    if len(now.strikes) >= 400:
        raise Refused("Full")
    now = now.copied()
    now.strikes.append((now.steps, hue, place, new))
    now.hands.append(True)
    return now


class PlainBench:
    """A bench as the list of the deeds that stand."""

    def __init__(self, code, paper, inputs):
        self.first = Moment(code, paper, inputs)
        self.deeds = []

    def look(self, many=None):
        """The moment behind the first so many deeds, and what is kept there."""
        now, kept = self.first, {}
        for deed in self.deeds[:many]:
            if deed[0] == "go":
                now = gone(now, deed[1])
            elif deed[0] == "strike":
                now = hit(now, *deed[1:])
            elif deed[0] == "lead":
                now = led(now, deed[1])
            elif deed[0] == "lay":
                now = Moment(deed[1], deed[2], now.inputs)
            elif deed[0] == "begin":
                now = Moment(now.code, now.paper, deed[1])
            elif deed[0] == "keep":
                kept[deed[1]] = now
            elif deed[1] not in kept:
                raise Refused("NotKept")
            else:
                now = kept[deed[1]]
        return now, kept

    def do(self, *deed):
        """A deed; Refused if it raises an error."""
        self.deeds.append(deed)
        try:
            self.look()
        except Refused:
            self.deeds.pop()
            raise
