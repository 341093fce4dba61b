"""Walks through codes with symbols in the place of numbers.

A symbol is a whole: below the size it is that number; all others are letters
or made. A made symbol is kept by what it is made of, so that equal ones are
the same whole. The spots of all hues stand in one row, those of a hue one
behind another; the place of a spot in it is its index.
"""

from hueward.cells import REGISTERS, is_settle_cell
from hueward.words import WORDS, worth

EITHER_WAY = ("plus", "times", "same")


def spots_each(code):
    """How many spots each hue of a code has."""
    return REGISTERS + len(code[3])


def joints_of(code):
    """The ascending list of the joints of a code."""
    found = [0]
    for at, cell in enumerate(code[2]):
        if cell[0] == "turn" or cell[0] == "goto":
            found.append(cell[1])
        if cell[0] == "turn" and at + 1 < len(code[2]):
            found.append(at + 1)
    return sorted(set(found))


class Walk:
    """A walk: the symbols of spots and slots, and, when it has ended, how it did.

    A walk that is not agreed has a doubt, which is a word, and its address.
    One that leaves has ascending goals, and the address of the goto or turn
    that leaves, otherwise that of the goal.
    """

    def __init__(self, code, symbols):
        self.size = code[1]
        self.hues = len(code[0])
        self.each = spots_each(code)
        self.now = list(symbols)
        self.offers = [None] * self.hues
        self.made = {}
        # The letters at the beginning are below this.
        self.fresh = self.size + len(symbols)
        self.doubt = None
        self.goals = []
        self.at = 0

    def letter(self):
        """A new letter."""
        self.fresh += 1
        return self.fresh - 1

    def made_of(self, key):
        """The symbol that is made of the items of a tuple."""
        if key not in self.made:
            self.made[key] = self.letter()
        return self.made[key]

    def of_word(self, word, one, other):
        """The symbol by a word."""
        if one < self.size and other < self.size:
            return worth(word, one, other, self.size)
        if other == 0 and (word == "plus" or word == "minus"):
            return one
        if one == 0 and word == "plus":
            return other
        if word in EITHER_WAY:
            return self.made_of((word, min(one, other), max(one, other)))
        return self.made_of((word, one, other))


def do_row(walk, cell):
    """Does an instruction."""
    hue, word, into = cell[:3]
    first = hue * walk.each
    if word == "set":
        walk.now[first + into] = cell[3]
    elif word == "offer":
        walk.offers[hue] = walk.now[first + into]
    elif word in WORDS:
        walk.now[first + into] = walk.of_word(word, walk.now[first + cell[3]], walk.now[first + cell[4]])
    elif word == "get":
        do_get(walk, cell, first)
    else:
        do_put(walk, cell, first)


def do_get(walk, cell, first):
    """Does a get of the hue whose first spot has this index."""
    into, other, base, length = cell[2:]
    begin = first + REGISTERS + base
    index = walk.now[first + other]
    if index < walk.size or length == 1:
        walk.now[first + into] = walk.now[begin + index % length]
    else:
        walk.now[first + into] = walk.made_of(("pick", index) + tuple(walk.now[begin:begin + length]))


def do_put(walk, cell, first):
    """Does a put of the hue whose first spot has this index."""
    source, other, base, length = cell[2:]
    begin = first + REGISTERS + base
    index = walk.now[first + other]
    new = walk.now[first + source]
    if index < walk.size or length == 1:
        walk.now[begin + index % length] = new
        return
    for k in range(length):
        walk.now[begin + k] = walk.made_of(("mix", k, length, index, new, walk.now[begin + k]))


def settled_symbol(walk, width):
    """The symbol on which the slots below a width agree, behind which all are blank; None if they do not."""
    offers = walk.offers[:width]
    if offers[0] is None or offers.count(offers[0]) != width:
        return None
    walk.offers = [None] * walk.hues
    return offers[0]


def is_agreed_mark(walk):
    """Whether the spots of all hues have equal symbols; behind it all slots are blank."""
    first = walk.now[:walk.each]
    for hue in range(1, walk.hues):
        if walk.now[hue * walk.each:(hue + 1) * walk.each] != first:
            return False
    walk.offers = [None] * walk.hues
    return True


def do_take(walk, cell):
    """Gives the hues below the width one new letter."""
    new = walk.letter()
    for hue in range(cell[2]):
        walk.now[hue * walk.each + cell[1]] = new


def leave_turn(walk, at, cell, symbol):
    """Leaves from the turn at an address by the agreed symbol."""
    goals = []
    if symbol != 0:
        goals.append(cell[1])
    if symbol == 0 or symbol >= walk.size:
        goals.append(at + 1)
    walk.goals = sorted(set(goals))


def do_settle(walk, at, cell):
    """Does the settle at an address; whether the walk goes on behind it."""
    word = cell[0]
    walk.at = at
    if word == "take":
        do_take(walk, cell)
        return True
    if word == "goto":
        walk.goals = [cell[1]]
        return False
    if word == "stop":
        return False
    if word == "mark":
        if is_agreed_mark(walk):
            return True
        walk.doubt = "mark"
        return False
    symbol = settled_symbol(walk, cell[2])
    if symbol is None:
        walk.doubt = "slots"
        return False
    if word == "turn":
        leave_turn(walk, at, cell, symbol)
    return word == "show"


def walked(code, joints, label, symbols):
    """The walk from a joint with these symbols of the spots; joints are the keys of a dict."""
    walk = Walk(code, symbols)
    inside = code[2]
    at = label
    while True:
        cell = inside[at]
        if not is_settle_cell(cell):
            do_row(walk, cell)
        elif not do_settle(walk, at, cell):
            return walk
        at += 1
        if at == len(inside) or at in joints:
            walk.goals = [at]
            walk.at = at
            return walk
