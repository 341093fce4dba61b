"""Making the most telling papers of codes, and joining codes."""

from hueward.blocks import goal_of, with_goal
from hueward.cells import MOST_BANK, MOST_CELLS, REGISTERS, is_settle_cell
from hueward.codes import check_code, is_code
from hueward.errors import BadOther, NoPaper, TooLarge
from hueward.papers import first_symbols
from hueward.walks import joints_of, spots_each, walked

WITH_BASES = ("get", "put")


def told_by(size, symbols):
    """What symbols of the spots tell, as symbols: each that is no number becomes that of the first equal spot."""
    firsts = {}
    found = []
    for at, symbol in enumerate(symbols):
        if symbol < size:
            found.append(symbol)
        else:
            found.append(size + firsts.setdefault(symbol, at))
    return found


def told_by_both(size, table, symbols):
    """What both rows of symbols tell, as told_by has it."""
    firsts = {}
    found = []
    for at, pair in enumerate(zip(table, symbols)):
        if pair[0] < size and pair[0] == pair[1]:
            found.append(pair[0])
        else:
            found.append(size + firsts.setdefault(pair, at))
    return found


def kins_of(code, told):
    """The table of what is told."""
    each = spots_each(code)
    together = {}
    for at, symbol in enumerate(told):
        together.setdefault(symbol, []).append((at // each, at % each))
    # Kins come in the sequence of their first spots, as these came.
    found = []
    for symbol, spots in together.items():
        if symbol < code[1]:
            found.append((symbol, tuple(spots)))
        elif len(spots) > 1:
            found.append((None, tuple(spots)))
    return found


def pass_on(code, walk, tables, waiting):
    """Tells each goal of a walk what it leaves with; those that learn something wait."""
    for goal in walk.goals:
        if goal == len(code[2]):
            raise NoPaper(goal)
        if goal not in tables:
            tables[goal] = told_by(code[1], walk.now)
            waiting[goal] = True
            continue
        both = told_by_both(code[1], tables[goal], walk.now)
        if both != tables[goal]:
            tables[goal] = both
            waiting[goal] = True


def made_paper(code):
    """The most telling paper that shows the code."""
    check_code(code)
    labels = {joint: True for joint in joints_of(code)}
    tables = {0: first_symbols(code)}
    waiting = {0: True}
    while waiting:
        label = min(list(waiting))
        del waiting[label]
        walk = walked(code, labels, label, tables[label])
        if walk.doubt is not None:
            raise NoPaper(walk.at)
        pass_on(code, walk, tables, waiting)
    return {label: kins_of(code, tables[label]) for label in sorted(tables)}


def moved_cell(cell, by, base):
    """A cell with its goal and its base raised."""
    if goal_of(cell) is not None:
        return with_goal(cell, goal_of(cell) + by)
    if is_settle_cell(cell) or cell[1] not in WITH_BASES:
        return cell
    return cell[:4] + (cell[4] + base, cell[5])


def joined(code, other):
    """The code that does one code and, in the place of its stops, another one."""
    check_code(code)
    if not is_code(other) or other[:2] != code[:2]:
        raise BadOther("this is no code with the same votes and size")
    votes, size, inside, bank = code
    first = len(inside)
    found = [("goto", first) if cell[0] == "stop" else cell for cell in inside]
    for hue in range(len(votes)):
        found.extend([(hue, "set", spot, 0) for spot in range(REGISTERS)])
    begin = len(found)
    found.extend([moved_cell(cell, begin, len(bank)) for cell in other[2]])
    if len(found) > MOST_CELLS or len(bank) + len(other[3]) > MOST_BANK:
        raise TooLarge("the code would have too many cells")
    return (votes, size, tuple(found), bank + other[3])
