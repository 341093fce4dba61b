"""The blocks of codes of one hue, and the cells of several hues that are made of them."""

from hueward.cells import is_settle_cell

WITH_GOALS = ("goto", "turn")
WITH_WIDTHS = ("show", "turn", "take")


def goal_of(cell):
    """The goal of a cell; None if it has none."""
    if cell[0] in WITH_GOALS:
        return cell[1]
    return None


def with_goal(cell, goal):
    """A cell that has a goal, with another one."""
    return (cell[0], goal) + cell[2:]


def with_width(cell, width):
    """A settle with another width; itself if it has none."""
    if cell[0] in WITH_WIDTHS:
        return cell[:2] + (width,)
    return cell


def block_starts(inside):
    """A dict with the addresses where blocks begin as its keys."""
    starts = {0: True}
    for at, cell in enumerate(inside):
        if is_settle_cell(cell):
            starts[at + 1] = True
        if goal_of(cell) is not None:
            starts[goal_of(cell)] = True
    return starts


def labels_in(inside):
    """The ascending list of the addresses of cells where blocks begin."""
    return [at for at in sorted(block_starts(inside)) if at < len(inside)]


def blocks_of(inside):
    """The list of the blocks of cells: each is a list of the addresses of its cells."""
    starts = block_starts(inside)
    found = []
    for at in range(len(inside)):
        if at in starts:
            found.append([])
        found[-1].append(at)
    return found


def spread(inside, widths):
    """The cells of several hues that are made of those of one hue, each one for the hues below its width."""
    hues = max(widths)
    found = []
    moved = {}
    for block in blocks_of(inside):
        moved[block[0]] = len(found)
        rows = [at for at in block if not is_settle_cell(inside[at])]
        for hue in range(hues):
            found.extend([(hue,) + inside[at][1:] for at in rows if hue < widths[at]])
        if len(rows) < len(block):
            found.append(with_width(inside[block[-1]], widths[block[-1]]))
    return tuple([cell if goal_of(cell) is None else with_goal(cell, moved[goal_of(cell)]) for cell in found])
