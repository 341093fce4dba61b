"""Where the things of a program stand in the bank of its compiled code."""

from hueward.programs import body_of, local_names, names_of_parts
from hueward.trees import inner_nodes, listed


def runs_many(program, name):
    """How many nodes of a program run a function; none run main."""
    many = 0
    for part in names_of_parts(program):
        many += len([node for node in listed(body_of(program, part)) if node[0] == "run" and node[1] == name])
    return many


def digits_many(program, part):
    """How many digits tell the run nodes of a part."""
    runs = runs_many(program, part)
    many = 0
    told = 1
    while told < runs:
        told = told * program[0]
        many += 1
    return many


def digits_of(number, size, many):
    """So many digits of a number, the least one first."""
    found = []
    for _ in range(many):
        found.append(number % size)
        number = number // size
    return found


def waiting_many(node):
    """How many values wait at once, at most, while the expressions of a node are worked out."""
    if node[0] == "if" or node[0] == "while":
        return waiting_many(node[1])
    inside = inner_nodes(node)
    many = 0
    for ahead, inner in enumerate(inside):
        many = max(many, ahead + waiting_many(inner))
    if node[0] == "run":
        return max(many, len(inside))
    return many


class Board:
    """What the bank holds first, and where everything stands there.

    An array has a pair of its first bank cell and its length; all others
    have the first one of their bank cells.
    """

    def __init__(self, program):
        self.bank = []
        self.arrays = {}
        self.homes = {}
        self.results = {}
        self.digits = {}
        self.waiting = {}
        for name, numbers in program[1]:
            self.arrays[name] = (len(self.bank), len(numbers))
            self.bank.extend(numbers)
        for part in names_of_parts(program):
            for x in local_names(program, part):
                self.homes[(part, x)] = self.more(1)
            self.results[part] = self.more(1)
            self.digits[part] = self.more(digits_many(program, part))
            many = [waiting_many(node) for node in listed(body_of(program, part))]
            self.waiting[part] = self.more(max(many, default=0))

    def more(self, many):
        """The index of the first one of so many further bank cells."""
        first = len(self.bank)
        self.bank.extend([0] * many)
        return first
