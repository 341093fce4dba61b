"""Compiling programs to codes, and codes of one hue and of several."""

from hueward.blocks import goal_of, spread, with_goal, with_width
from hueward.boards import digits_many
from hueward.cells import MOST_BANK, MOST_CELLS, is_settle_cell
from hueward.checks import check_inputs, check_steps
from hueward.codes import check_code, check_hue, check_votes
from hueward.drafts import drafted
from hueward.errors import BadCode, TooLarge
from hueward.flows import things_of, web_of
from hueward.programs import body_of, check_program, local_names, names_of_parts
from hueward.trees import listed
from hueward.widths import check_fit
from hueward.works import Works, do_step, fetched

# What is allowed for each node, local, part and run.
FOR_NODE = 6
FOR_LOCAL = 2
FOR_PART = 8
FOR_RUN = 24
FOR_DIGIT = 10
BANK_FOR_PART = 2
MOST_WAITING = 40


def cells_allowed(program):
    """How many cells are allowed for a program, of one hue."""
    many = 0
    for part in names_of_parts(program):
        inside = listed(body_of(program, part))
        many += FOR_PART + FOR_NODE * len(inside) + FOR_LOCAL * len(local_names(program, part))
        for node in inside:
            if node[0] == "run":
                many += FOR_RUN + FOR_DIGIT * digits_many(program, node[1])
    return many


def bank_allowed(program):
    """How many bank cells are allowed for a program."""
    many = sum([len(numbers) for _, numbers in program[1]])
    for part in names_of_parts(program):
        nodes_many = len(listed(body_of(program, part)))
        many += len(local_names(program, part)) + BANK_FOR_PART + digits_many(program, part)
        many += min(MOST_WAITING, nodes_many)
    return many


def check_room(program, hues):
    """TooLarge if the code of a program with so many hues could be too large."""
    if hues * cells_allowed(program) > MOST_CELLS:
        raise TooLarge(f"the code could have more than {MOST_CELLS} cells")
    if bank_allowed(program) > MOST_BANK:
        raise TooLarge(f"the bank could have more than {MOST_BANK} cells")


def compiled(program, votes, widths=None):
    """A code in which each hue does the work of the program, or what the widths leave to it."""
    check_program(program)
    check_votes(votes)
    hues = len(votes)
    if widths is None:
        widths = {thing: hues for thing in things_of(program)}
    else:
        check_fit(web_of(program), hues, widths)
    check_room(program, hues)
    draft = drafted(program, widths, hues)
    return (votes, program[0], spread(draft.inside, draft.wide), tuple(draft.board.bank))


def widened(code, votes):
    """The code of one hue as one of several, in which all hues do the same."""
    check_code(code)
    if len(code[0]) != 1:
        raise BadCode("this is no code of one hue")
    check_votes(votes)
    _, size, inside, bank = code
    hues = len(votes)
    found = spread(inside, [hues] * len(inside))
    if len(found) > MOST_CELLS:
        raise TooLarge(f"the code would have more than {MOST_CELLS} cells")
    return (votes, size, found, bank)


def narrowed(code, hue):
    """The code of one hue that this one of a code does by itself."""
    check_code(code)
    check_hue(code, hue)
    _, size, inside, bank = code
    found = []
    # For each address, how many cells are kept ahead of it.
    ahead = []
    for cell in inside:
        ahead.append(len(found))
        if is_settle_cell(cell):
            found.append(with_width(cell, 1))
        elif cell[0] == hue:
            found.append((0,) + cell[1:])
    many = len(found)
    goals = [ahead[goal_of(cell)] for cell in found if goal_of(cell) is not None]
    if many == 0 or many in goals:
        found.append(("stop",))
    kept = [cell if goal_of(cell) is None else with_goal(cell, ahead[goal_of(cell)]) for cell in found]
    return ((1,), size, tuple(kept), bank)


def own_steps(code, inputs, steps):
    """How many instructions, and how many settles, the first steps of the unstruck run do."""
    check_code(code)
    check_inputs(inputs)
    check_steps(steps)
    works = Works(code, inputs, ())
    rows_done = 0
    settles_done = 0
    for _ in range(steps):
        if works.word != "running":
            break
        at = fetched(works)
        do_step(works)
        if works.word == "caught":
            break
        if is_settle_cell(works.tape[at]):
            settles_done += 1
        else:
            rows_done += 1
    return (rows_done, settles_done)
