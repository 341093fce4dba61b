"""Even codes, how long their legs can be, and where marks are put into them."""

from hueward.blocks import WITH_WIDTHS, blocks_of, goal_of, labels_in, with_goal
from hueward.cells import MOST_CELLS, is_settle_cell
from hueward.checks import MOST_STEPS, is_within
from hueward.codes import check_code
from hueward.errors import BadLabels, BadLength, NotEven, TooLarge, TooMany
from hueward.legs import NEVER_ON, Net, longest_leg_of, with_nodes

SETTLING_SLOTS = ("show", "turn")
MOST_LABELS = 20


def is_full(code):
    """Whether all widths in the settles of a code are those of all hues."""
    return all([cell[2] == len(code[0]) for cell in code[2] if cell[0] in WITH_WIDTHS])


def is_even_block(hues, cells):
    """Whether in the cells of a block all hues do the same, and offer exactly if it settles slots."""
    rows = [cell for cell in cells if not is_settle_cell(cell)]
    one = [cell[1:] for cell in rows if cell[0] == 0]
    for hue in range(1, hues):
        if [cell[1:] for cell in rows if cell[0] == hue] != one:
            return False
    return any([row[0] == "offer" for row in one]) == (cells[-1][0] in SETTLING_SLOTS)


def is_even_code(code):
    """Whether a code is even."""
    votes, inside = code[0], code[2]
    if not is_full(code) or inside[-1][0] not in NEVER_ON:
        return False
    return all([is_even_block(len(votes), [inside[at] for at in block]) for block in blocks_of(inside)])


def is_even(code):
    """Whether a code has full widths and all hues do the same in each block, which offers only for its settle."""
    check_code(code)
    return is_even_code(code)


def check_even(code):
    """BadCode, or NotEven unless the code is even."""
    check_code(code)
    if not is_even_code(code):
        raise NotEven("the code is not even")


def longest_leg(code):
    """The greatest count of cells up to the next mark or stop; None if there is no greatest one."""
    check_even(code)
    net = Net(code[2])
    return longest_leg_of(net, [False] * len(net.labels))


def are_labels(code, value):
    """Whether any value is an ascending list of unlike labels of a code."""
    if not isinstance(value, (list, tuple)):
        return False
    labels = {label: True for label in labels_in(code[2])}
    least = 0
    for label in value:
        if not is_within(label, least, len(code[2]) - 1) or label not in labels:
            return False
        least = label + 1
    return True


def with_marks(code, some):
    """The code with a mark just ahead of each of some labels."""
    check_even(code)
    if not are_labels(code, some):
        raise BadLabels("these are no ascending labels of the code")
    votes, size, inside, bank = code
    if len(inside) + len(some) > MOST_CELLS:
        raise TooLarge(f"the code would have more than {MOST_CELLS} cells")
    marked = {label: True for label in some}
    moved = []
    found = []
    for at, cell in enumerate(inside):
        moved.append(len(found))
        if at in marked:
            found.append(("mark",))
        found.append(cell)
    found = [cell if goal_of(cell) is None else with_goal(cell, moved[goal_of(cell)]) for cell in found]
    return (votes, size, tuple(found), bank)


def fewest_marks(code, length):
    """The labels, as few as can be, with marks at which no leg is too long; None if marks at all do not suffice."""
    check_even(code)
    if not is_within(length, 1, MOST_STEPS):
        raise BadLength(f"a length is a whole from 1 to {MOST_STEPS}")
    net = Net(code[2])
    many = len(net.labels)
    if many > MOST_LABELS:
        raise TooMany(f"the code has more than {MOST_LABELS} labels")
    if len(code[2]) + many > MOST_CELLS:
        raise TooLarge(f"the code would have more than {MOST_CELLS} cells")
    if longest_leg_of(net, [True] * many) > length:
        return None
    room = 0
    while True:
        marked = with_nodes(net, [False] * many, [False] * many, room, length)
        if marked is not None:
            return [label for label, is_marked in zip(net.labels, marked) if is_marked]
        room += 1
