"""The cells of codes: what an instruction and a settle may be."""

from hueward.checks import is_within
from hueward.programs import GREATEST_PORT
from hueward.words import WORDS

MOST_HUES = 5
MOST_CELLS = 4000
MOST_BANK = 600
REGISTERS = 8

# For each word the kinds of the items behind it: of instructions, and of settles.
INSTRUCTIONS = {
    "set": ("register", "number"),
    "get": ("register", "register", "base", "length"),
    "put": ("register", "register", "base", "length"),
    "offer": ("register",),
}
SETTLES = {
    "show": ("port", "width"),
    "turn": ("goal", "width"),
    "take": ("register", "width"),
    "goto": ("goal",),
    "stop": (),
    "mark": (),
}
TWO_OPERANDS = ("register", "register", "register")


class Bounds:
    """What the items of cells must be below: counts of hues, cells and bank cells, and the size."""

    def __init__(self, hues, size, bank, many):
        self.hues = hues
        self.size = size
        self.bank = bank
        self.many = many


def bounds_of(code):
    """The bounds of a code."""
    votes, size, inside, bank = code
    return Bounds(len(votes), size, len(bank), len(inside))


def is_settle_cell(cell):
    """Whether a cell of a code is a settle."""
    return isinstance(cell[0], str)


def fits_instruction(bounds, hue, value):
    """Whether any value is an instruction of a hue within these bounds."""
    if not isinstance(value, tuple) or len(value) < 2 or not is_within(value[0], hue, hue):
        return False
    word = value[1]
    if not isinstance(word, str):
        return False
    if word in WORDS:
        return fit_items(bounds, TWO_OPERANDS, value[2:])
    if word not in INSTRUCTIONS or not fit_items(bounds, INSTRUCTIONS[word], value[2:]):
        return False
    return word == "set" or word == "offer" or value[4] + value[5] <= bounds.bank


def fits_cell(bounds, value):
    """Whether any value is an instruction of some hue or a settle within these bounds."""
    if not isinstance(value, tuple) or len(value) < 1:
        return False
    if isinstance(value[0], str):
        return value[0] in SETTLES and fit_items(bounds, SETTLES[value[0]], value[1:])
    return is_within(value[0], 0, bounds.hues - 1) and fits_instruction(bounds, value[0], value)


def fit_items(bounds, kinds, items):
    """Whether items are of these kinds, one for one."""
    if len(items) != len(kinds):
        return False
    for kind, item in zip(kinds, items):
        if not fits_kind(bounds, kind, item):
            return False
    return True


def fits_kind(bounds, kind, item):
    """Whether any value is an item of a kind."""
    if kind == "register":
        return is_within(item, 0, REGISTERS - 1)
    if kind == "number":
        return is_within(item, 0, bounds.size - 1)
    if kind == "base":
        return is_within(item, 0, bounds.bank - 1)
    if kind == "length" or kind == "width":
        return is_within(item, 1, bounds.bank if kind == "length" else bounds.hues)
    if kind == "goal":
        return is_within(item, 0, bounds.many - 1)
    return is_within(item, 0, GREATEST_PORT)
