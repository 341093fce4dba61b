"""Papers, which show of codes that their hues never differ, and what is doubtful in them."""

from hueward.cells import REGISTERS
from hueward.checks import is_within
from hueward.codes import check_code
from hueward.errors import BadPaper
from hueward.walks import joints_of, spots_each, walked


def joints(code):
    """The ascending list of the joints of a code."""
    check_code(code)
    return joints_of(code)


def is_spot(code, value):
    """Whether any value is a spot of a code."""
    if not isinstance(value, tuple) or len(value) != 2 or not is_within(value[0], 0, len(code[0]) - 1):
        return False
    return is_within(value[1], 0, spots_each(code) - 1)


def is_kin(code, value):
    """Whether any value is a kin for a code."""
    if not isinstance(value, tuple) or len(value) != 2:
        return False
    number, spots = value
    if number is not None and not is_within(number, 0, code[1] - 1):
        return False
    if not isinstance(spots, tuple) or not all([is_spot(code, spot) for spot in spots]):
        return False
    if len(spots) < 1 or number is None and len(spots) < 2:
        return False
    return all([one < other for one, other in zip(spots, spots[1:])])


def is_table(code, value):
    """Whether any value is a table for a code."""
    if not isinstance(value, (list, tuple)) or not all([is_kin(code, kin) for kin in value]):
        return False
    firsts = [kin[1][0] for kin in value]
    spots = [spot for kin in value for spot in kin[1]]
    numbers = [kin[0] for kin in value if kin[0] is not None]
    return firsts == sorted(firsts) and len(set(spots)) == len(spots) and len(set(numbers)) == len(numbers)


def is_paper_for(code, value):
    """Whether any value is a paper for a code."""
    if not isinstance(value, dict) or 0 not in value:
        return False
    labels = {joint: True for joint in joints_of(code)}
    for label, table in value.items():
        if not is_within(label, 0, len(code[2]) - 1) or label not in labels or not is_table(code, table):
            return False
    return True


def is_paper(code, value):
    """Whether a value is a paper for the code."""
    check_code(code)
    return is_paper_for(code, value)


def check_paper(code, paper):
    """BadPaper unless this is a paper for the code."""
    if not is_paper_for(code, paper):
        raise BadPaper("this is no paper for the code")


def index_of(code, spot):
    """The index of a spot in the row of all spots."""
    return spot[0] * spots_each(code) + spot[1]


def symbols_of(code, table):
    """The symbols of the spots with which a walk begins that has this table."""
    found = [code[1] + at for at in range(len(code[0]) * spots_each(code))]
    for number, spots in table:
        symbol = number
        if number is None:
            symbol = found[index_of(code, spots[0])]
        for spot in spots:
            found[index_of(code, spot)] = symbol
    return found


def first_symbols(code):
    """The symbols of the spots where all registers are 0 and the bank cells are as the bank says."""
    return ([0] * REGISTERS + list(code[3])) * len(code[0])


def holds(code, table, symbols):
    """Whether a table holds where the spots have these symbols."""
    for number, spots in table:
        found = [symbols[index_of(code, spot)] for spot in spots]
        if found.count(found[0]) != len(found) or number is not None and found[0] != number:
            return False
    return True


def doubt_of(code, paper, walk):
    """The pair of the address and the word of the first doubt of a walk; None if there is none."""
    if walk.doubt is not None:
        return (walk.at, walk.doubt)
    for goal in walk.goals:
        if goal not in paper:
            return (walk.at, "goal")
        if not holds(code, paper[goal], walk.now):
            return (walk.at, "table")
    return None


def doubts(code, paper):
    """The list of the doubts of a paper: triples of a label, an address and a word."""
    check_code(code)
    check_paper(code, paper)
    found = []
    if not holds(code, paper[0], first_symbols(code)):
        found.append((0, 0, "start"))
    labels = {joint: True for joint in joints_of(code)}
    for label in sorted(paper):
        walk = walked(code, labels, label, symbols_of(code, paper[label]))
        doubt = doubt_of(code, paper, walk)
        if doubt is not None:
            found.append((label,) + doubt)
    return found


def is_shown(code, paper):
    """Whether a paper shows a code: there are no doubts."""
    return doubts(code, paper) == []
