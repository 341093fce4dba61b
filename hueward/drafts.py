"""Drafts of compiled programs: the cells of one hue, each with the width of the thing that it is for.

An expression leaves its value in a register. What is worked out ahead of
another expression waits in bank cells of its part, since a run in that other
one uses the registers anew.
"""

from hueward.blocks import goal_of, with_goal
from hueward.boards import Board, digits_many, digits_of
from hueward.programs import local_names, params_of
from hueward.trees import listed

# Registers: for values, for first operands, and for whether digits are the same.
VALUE = 0
OTHER = 1
ALIKE = 2


class Draft:
    """Cells of one hue with their widths, while the part is laid; their goals are numbers of labels.

    A function has a label at its entry and one at its exit, and a list of
    those behind its runs, which are its ways back.
    """

    def __init__(self, program, widths, hues):
        self.program = program
        self.widths = widths
        self.hues = hues
        self.board = Board(program)
        self.inside = []
        self.wide = []
        self.labels = []
        self.entries = {}
        self.exits = {}
        self.ways = {}
        for function in program[2]:
            name = function[0]
            self.entries[name] = self.new_label()
            self.exits[name] = self.new_label()
            self.ways[name] = []
        self.part = "main"

    def new_label(self):
        """The number of a new label."""
        self.labels.append(0)
        return len(self.labels) - 1

    def set_label(self, label):
        """The label stands ahead of the cell that is added next."""
        self.labels[label] = len(self.inside)

    def add_cell(self, cell, width):
        """Adds a cell for the hues below a width."""
        self.inside.append(cell)
        self.wide.append(width)

    def add_get(self, into, index, width):
        """A register becomes a bank cell."""
        self.add_cell((0, "get", into, VALUE, index, 1), width)

    def add_put(self, index, width):
        """A bank cell becomes the value."""
        self.add_cell((0, "put", VALUE, VALUE, index, 1), width)

    def add_turn(self, offered, label, width):
        """Goes to a label if the number in a register is not 0."""
        self.add_cell((0, "offer", offered), width)
        self.add_cell(("turn", label, width), width)

    def add_goto(self, label):
        """Goes to a label."""
        self.add_cell(("goto", label), 1)

    def waits_at(self, ahead):
        """The bank cell of the part in which a value waits behind so many others."""
        return self.board.waiting[self.part] + ahead


def drafted(program, widths, hues):
    """The draft of a program, with addresses as goals."""
    draft = Draft(program, widths, hues)
    lay_body(draft, program[3], 0)
    draft.add_cell(("stop",), 1)
    # A function is laid behind all parts that may run it, when its ways back are known.
    for name, _, body in reversed(program[2]):
        if widths[("part", name)] > 0:
            lay_function(draft, name, body)
    draft.inside = [addressed(draft, cell) for cell in draft.inside]
    return draft


def addressed(draft, cell):
    """A cell with the address of a label in the place of its number."""
    label = goal_of(cell)
    if label is None:
        return cell
    return with_goal(cell, draft.labels[label])


def lay_function(draft, name, body):
    """Lays a function: zeros for its locals, its body, and the ways back."""
    draft.part = name
    draft.set_label(draft.entries[name])
    for x in local_names(draft.program, name):
        if x not in params_of(draft.program, name):
            width = draft.widths[("local", name, x)]
            draft.add_cell((0, "set", VALUE, 0), width)
            draft.add_put(draft.board.homes[(name, x)], width)
    lay_body(draft, body, 0)
    width = draft.widths[("result", name)]
    draft.add_cell((0, "set", VALUE, 0), width)
    draft.add_put(draft.board.results[name], width)
    draft.set_label(draft.exits[name])
    lay_ways(draft, name)


def lay_ways(draft, name):
    """Lays the ways back of a function: each but the last one is taken if all its digits are told."""
    ways = draft.ways[name]
    if not ways:
        # No run leads here, but the code must not end without a stop or goto.
        draft.add_cell(("stop",), 1)
        return
    many = digits_many(draft.program, name)
    for number, way in enumerate(ways[:-1]):
        for at, digit in enumerate(digits_of(number, draft.program[0], many)):
            draft.add_get(VALUE, draft.board.digits[name] + at, draft.hues)
            draft.add_cell((0, "set", OTHER, digit), draft.hues)
            if at == 0:
                draft.add_cell((0, "same", ALIKE, VALUE, OTHER), draft.hues)
            else:
                draft.add_cell((0, "same", VALUE, VALUE, OTHER), draft.hues)
                draft.add_cell((0, "times", ALIKE, ALIKE, VALUE), draft.hues)
        draft.add_turn(ALIKE, way, draft.hues)
    draft.add_goto(ways[-1])


def lay_body(draft, body, at):
    """Lays the statements of a body, the first of which has the index at."""
    for node in body:
        lay_statement(draft, node, at)
        at = at + len(listed((node,)))


def lay_statement(draft, node, at):
    """Lays the statement with the index at."""
    word = node[0]
    if word == "let":
        width = draft.widths[("local", draft.part, node[1])]
        lay_value(draft, node[2], width, 0)
        draft.add_put(draft.board.homes[(draft.part, node[1])], width)
    elif word == "put":
        lay_put(draft, node)
    elif word == "if":
        lay_if(draft, node, at)
    elif word == "while":
        lay_while(draft, node, at)
    elif word == "show":
        width = draft.widths[("port", node[1])]
        lay_value(draft, node[2], width, 0)
        draft.add_cell((0, "offer", VALUE), width)
        draft.add_cell(("show", node[1], width), width)
    elif word == "take":
        width = draft.widths[("local", draft.part, node[1])]
        draft.add_cell(("take", VALUE, max(1, width)), max(1, width))
        draft.add_put(draft.board.homes[(draft.part, node[1])], width)
    elif word == "give":
        width = draft.widths[("result", draft.part)]
        lay_value(draft, node[1], width, 0)
        draft.add_put(draft.board.results[draft.part], width)
        draft.add_goto(draft.exits[draft.part])
    else:
        draft.add_cell((word,), 1)


def lay_put(draft, node):
    """Lays a put: the index waits while the value is worked out."""
    width = draft.widths[("array", node[1])]
    lay_value(draft, node[2], width, 0)
    draft.add_put(draft.waits_at(0), width)
    lay_value(draft, node[3], width, 1)
    draft.add_get(OTHER, draft.waits_at(0), width)
    base, length = draft.board.arrays[node[1]]
    draft.add_cell((0, "put", VALUE, OTHER, base, length), width)


def lay_if(draft, node, at):
    """Lays the if with the index at; of one with a test of the width 0 only the runs in its test."""
    width = draft.widths[("test", draft.part, at)]
    lay_value(draft, node[1], width, 0)
    if width == 0:
        return
    first = draft.new_label()
    behind = draft.new_label()
    begin = at + 1 + len(listed((node[1],)))
    draft.add_turn(VALUE, first, width)
    lay_body(draft, node[3], begin + len(listed(node[2])))
    draft.add_goto(behind)
    draft.set_label(first)
    lay_body(draft, node[2], begin)
    draft.set_label(behind)


def lay_while(draft, node, at):
    """Lays the while with the index at."""
    width = draft.widths[("test", draft.part, at)]
    again = draft.new_label()
    inside = draft.new_label()
    behind = draft.new_label()
    draft.set_label(again)
    lay_value(draft, node[1], width, 0)
    draft.add_turn(VALUE, inside, width)
    draft.add_goto(behind)
    draft.set_label(inside)
    lay_body(draft, node[2], at + 1 + len(listed((node[1],))))
    draft.add_goto(again)
    draft.set_label(behind)


def lay_value(draft, node, width, ahead):
    """Lays an expression that the hues below a width work out, while so many values wait."""
    word = node[0]
    if word == "number":
        draft.add_cell((0, "set", VALUE, node[1]), width)
    elif word == "local":
        draft.add_get(VALUE, draft.board.homes[(draft.part, node[1])], width)
    elif word == "cell":
        lay_value(draft, node[2], width, ahead)
        base, length = draft.board.arrays[node[1]]
        draft.add_cell((0, "get", VALUE, VALUE, base, length), width)
    elif word == "run":
        lay_run(draft, node, ahead)
        draft.add_get(VALUE, draft.board.results[node[1]], width)
    else:
        lay_value(draft, node[1], width, ahead)
        draft.add_put(draft.waits_at(ahead), width)
        lay_value(draft, node[2], width, ahead + 1)
        draft.add_get(OTHER, draft.waits_at(ahead), width)
        draft.add_cell((0, word, VALUE, OTHER, VALUE), width)


def lay_run(draft, node, ahead):
    """Lays a run up to where its result is there; its arguments wait until all of them are worked out."""
    name, arguments = node[1:]
    widths = [draft.widths[("local", name, param)] for param in params_of(draft.program, name)]
    for at, argument in enumerate(arguments):
        lay_value(draft, argument, widths[at], ahead + at)
        draft.add_put(draft.waits_at(ahead + at), widths[at])
    if draft.widths[("part", name)] == 0:
        return
    for at, param in enumerate(params_of(draft.program, name)):
        draft.add_get(VALUE, draft.waits_at(ahead + at), widths[at])
        draft.add_put(draft.board.homes[(name, param)], widths[at])
    ways = draft.ways[name]
    many = digits_many(draft.program, name)
    for at, digit in enumerate(digits_of(len(ways), draft.program[0], many)):
        draft.add_cell((0, "set", VALUE, digit), draft.hues)
        draft.add_put(draft.board.digits[name] + at, draft.hues)
    draft.add_goto(draft.entries[name])
    ways.append(draft.new_label())
    draft.set_label(ways[-1])
