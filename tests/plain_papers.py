"""Another reading of [37] to [42], with symbols as nested tuples, to compare papers with. For short codes."""

from tests.plain_machine import value_of

BLANK = None


def number(n):
    return ("number", n)


def plain_joints(code):
    """The set of the joints."""
    found = {0}
    for at, cell in enumerate(code[2]):
        if cell[0] in ("turn", "goto"):
            found.add(cell[1])
        if cell[0] == "turn":
            found.add(at + 1)
    return {at for at in found if at < len(code[2])}


def all_spots(code):
    """All spots, ascending."""
    return [(hue, at) for hue in range(len(code[0])) for at in range(8 + len(code[3]))]


def by_word(word, a, b, size):
    """The symbol by a word."""
    if a[0] == "number" and b[0] == "number":
        return number(value_of(word, a[1], b[1], size))
    if b == number(0) and word in ("plus", "minus"):
        return a
    if a == number(0) and word == "plus":
        return b
    if word in ("plus", "times", "same"):
        return ("made", word, frozenset([a, b]), a == b)
    return ("made", word, a, b)


class PlainWalk:
    """The walk from a joint; table is a dict from spots to what they share: a number, or any name."""

    def __init__(self, code, label, table):
        self.code = code
        self.votes, self.size, self.cells, self.bank = code
        self.now = {}
        for spot in all_spots(code):
            held = table.get(spot, ("own", spot))
            self.now[spot] = held if held[0] == "number" else ("letter", held)
        self.slots = [BLANK] * len(self.votes)
        self.letters = 0
        self.wrong = None
        self.goals = []
        self.address = None
        at = label
        while at is not None:
            at = self.step(at)

    def step(self, at):
        """Does the cell at an address; the next address, None where the walk ends."""
        cell = self.cells[at]
        if isinstance(cell[0], int):
            self.instruct(cell)
        elif cell[0] == "stop":
            return None
        elif cell[0] == "goto":
            return self.leave(at, [cell[1]])
        elif cell[0] == "take":
            self.letters += 1
            for hue in range(cell[2]):
                self.now[(hue, cell[1])] = ("letter", "taken", self.letters)
        elif cell[0] == "mark":
            for spot in range(8 + len(self.bank)):
                if len({self.now[(hue, spot)] for hue in range(len(self.votes))}) > 1:
                    return self.refuse(at, "mark")
            self.slots = [BLANK] * len(self.votes)
        else:
            found = set(self.slots[:cell[2]])
            if BLANK in found or len(found) > 1:
                return self.refuse(at, "slots")
            self.slots = [BLANK] * len(self.votes)
            symbol = found.pop()
            if cell[0] == "turn":
                goals = set() if symbol == number(0) else {cell[1]}
                if symbol == number(0) or symbol[0] != "number":
                    goals.add(at + 1)
                return self.leave(at, sorted(goals))
        if at + 1 in plain_joints(self.code) or at + 1 == len(self.cells):
            return self.leave(at + 1, [at + 1])
        return at + 1

    def leave(self, address, goals):
        self.address, self.goals = address, goals

    def refuse(self, address, word):
        self.address, self.wrong = address, word

    def instruct(self, cell):
        hue, word = cell[:2]
        if word == "set":
            self.now[(hue, cell[2])] = number(cell[3])
        elif word == "offer":
            self.slots[hue] = self.now[(hue, cell[2])]
        elif word in ("get", "put"):
            self.reach(hue, *cell[1:])
        else:
            one, other = self.now[(hue, cell[3])], self.now[(hue, cell[4])]
            self.now[(hue, cell[2])] = by_word(word, one, other, self.size)

    def reach(self, hue, word, b, c, base, length):
        spots = [(hue, 8 + base + k) for k in range(length)]
        index = self.now[(hue, c)]
        if index[0] == "number" or length == 1:
            spot = spots[index[1] % length if length > 1 else 0]
            if word == "get":
                self.now[(hue, b)] = self.now[spot]
            else:
                self.now[spot] = self.now[(hue, b)]
        elif word == "get":
            self.now[(hue, b)] = ("pick", index, tuple([self.now[spot] for spot in spots]))
        else:
            new = self.now[(hue, b)]
            for k, spot in enumerate(spots):
                self.now[spot] = ("mix", k, length, index, new, self.now[spot])


def start_of(code):
    """What is known at the start: a dict from spots to numbers."""
    return {spot: number(code[3][spot[1] - 8] if spot[1] > 7 else 0) for spot in all_spots(code)}


def kins_told(code, held):
    """The table of a dict from spots to what they share."""
    groups = {}
    for spot in all_spots(code):
        groups.setdefault(held[spot], []).append(spot)
    found = []
    for shared, spots in groups.items():
        if shared[0] == "number" or len(spots) > 1:
            found.append((shared[1] if shared[0] == "number" else None, tuple(spots)))
    return sorted(found, key=lambda kin: kin[1][0])


def held_by(code, table):
    """A dict from spots to what they share by a table."""
    found = {spot: ("own", spot) for spot in all_spots(code)}
    for n, spots in table:
        for spot in spots:
            found[spot] = number(n) if n is not None else ("kin", spots)
    return found


def tells_all(code, held, table):
    """Whether what spots hold is as a table says."""
    return all([len({held[spot] for spot in spots}) == 1 and (n is None or held[spots[0]] == number(n))
                for n, spots in table])


def plain_doubts(code, paper):
    """The doubts of a paper."""
    found = [] if tells_all(code, start_of(code), paper[0]) else [(0, 0, "start")]
    for label in sorted(paper):
        walk = PlainWalk(code, label, held_by(code, paper[label]))
        words = [walk.wrong] if walk.wrong else []
        for goal in walk.goals:
            if goal not in paper:
                words.append("goal")
            elif not tells_all(code, walk.now, paper[goal]):
                words.append("table")
        if words:
            found.append((label, walk.address, words[0]))
    return found


def plain_paper(code):
    """The paper that [42] makes; an address where it says NoPaper."""
    tables = {0: start_of(code)}
    waiting = {0}
    while waiting:
        label = min(waiting)
        waiting.remove(label)
        walk = PlainWalk(code, label, {spot: held for spot, held in tables[label].items()})
        if walk.wrong:
            return walk.address
        for goal in walk.goals:
            if goal == len(code[2]):
                return goal
            if goal in tables:
                both = {}
                for spot in all_spots(code):
                    pair = (tables[goal][spot], walk.now[spot])
                    both[spot] = pair[0] if pair[0] == pair[1] and pair[0][0] == "number" else ("both", pair)
                if kins_told(code, both) == kins_told(code, tables[goal]):
                    continue
            else:
                both = walk.now
            tables[goal] = held_by(code, kins_told(code, both))
            waiting.add(goal)
    return {label: kins_told(code, tables[label]) for label in sorted(tables)}
