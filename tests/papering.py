"""Codes for the tests of papers, whose hues often go in ways of their own."""

from tests.coding import CodeMaker, coded
from tests.compiling import HAND_MADE, is_instruction_cell, made

# The example at the end of [44].
CODE_44 = coded(
    ("take", 0, 2), (0, "set", 1, 3), (0, "plus", 2, 0, 1), (1, "set", 5, 3), (1, "plus", 4, 5, 0), (0, "offer", 2),
    (1, "offer", 4), ("show", 0, 2), ("goto", 0),
)
PAPER_44 = {0: [
    (None, ((0, 0), (1, 0))), (None, ((0, 1), (1, 5))), (None, ((0, 2), (1, 4))),
    (0, ((0, 3), (0, 4), (0, 5), (0, 6), (0, 7), (1, 1), (1, 2), (1, 3), (1, 6), (1, 7))),
]}

# What is known of its registers is less and less: each time around one equality is lost.
SHIFTING = coded(
    *[(hue, "plus", 6 - at, 5 - at, 7) for at in range(6) for hue in (0, 1)], ("take", 0, 2), ("goto", 0),
)


def goals_of(code):
    """The goals of a code."""
    return {cell[1] for cell in code[2] if cell[0] in ("goto", "turn")}


def with_cells(code, cells):
    """The code with other cells."""
    return code[:2] + (tuple(cells),) + code[3:]


def exchanged_some(code, chance, many):
    """The code with some neighbouring instructions of unlike hues of one stretch exchanged."""
    cells = list(code[2])
    goals = goals_of(code)
    for _ in range(many):
        at = chance.randrange(len(cells))
        pair = cells[at:at + 2]
        if len(pair) == 2 and all([is_instruction_cell(cell) for cell in pair]) and pair[0][0] != pair[1][0]:
            if at + 1 not in goals:
                cells[at:at + 2] = [pair[1], pair[0]]
    return with_cells(code, cells)


def moved_registers(cell, table):
    """An instruction with other registers."""
    hue, word = cell[:2]
    if word in ("set", "offer"):
        return (hue, word, table[cell[2]]) + cell[3:]
    if word in ("get", "put"):
        return (hue, word, table[cell[2]], table[cell[3]]) + cell[4:]
    return (hue, word) + tuple([table[register] for register in cell[2:]])


def turned_round(cell, chance):
    """An instruction with its operands the other way round, where that means nothing."""
    if cell[1] in ("plus", "times", "same") and chance.random() < 0.5:
        return cell[:3] + (cell[4], cell[3])
    return cell


def own_ways(code, chance):
    """A code without marks in which each hue has registers of its own, and a sequence of its own."""
    taken = {cell[1] for cell in code[2] if cell[0] == "take"}
    tables = []
    for hue in range(len(code[0])):
        free = [register for register in range(8) if register not in taken]
        mixed = chance.sample(free, len(free))
        tables.append({register: register for register in taken} | dict(zip(free, mixed)))
    cells = []
    for cell in code[2]:
        if is_instruction_cell(cell):
            cell = turned_round(moved_registers(cell, tables[cell[0]]), chance)
        cells.append(cell)
    return exchanged_some(with_cells(code, cells), chance, 60)


def paper_codes(many):
    """Codes of all kinds, some of them shown by papers."""
    found = [CODE_44, SHIFTING]
    for seed in range(many):
        maker = CodeMaker(seed, 16)
        kind = seed % 4
        code = maker.code() if kind == 0 else maker.alike(marks=kind == 1)
        found.append(own_ways(code, maker.chance) if kind > 1 else code)
    return found


def program_codes():
    """The codes of programs made by hand."""
    found = [made(program, (1, 2)) for program in HAND_MADE]
    return [code for code in found if code is not None]


def holds_now(machine, table):
    """Whether a table holds in the registers and cells of a machine."""
    for number, spots in table:
        found = [(machine.registers(hue) + machine.cells(hue))[at] for hue, at in spots]
        if len(set(found)) > 1 or number is not None and found[0] != number:
            return False
    return True
