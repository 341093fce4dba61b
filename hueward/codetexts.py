"""The texts of codes."""

from hueward.cells import MOST_CELLS, Bounds, fits_cell
from hueward.checks import is_within
from hueward.codes import check_code, is_bank, is_votes
from hueward.errors import BadCodeText
from hueward.programs import GREATEST_SIZE, LEAST_SIZE
from hueward.reading import is_word_of_whole

REMARK = "#"
# No whole of a code is greater: a size is at most so much.
GREATEST_WHOLE = 10000


def line_of(items):
    """The line of words and wholes."""
    return " ".join([str(item) for item in items])


def code_text(code):
    """The text of a code."""
    check_code(code)
    votes, size, inside, bank = code
    heads = [("votes",) + votes, ("size", size), ("bank",) + bank]
    return "\n".join([line_of(items) for items in heads + list(inside)])


def items_of(line):
    """The words of a line, those that write wholes as wholes."""
    found = []
    for word in line.split(" "):
        if is_word_of_whole(word, 0, GREATEST_WHOLE):
            found.append(int(word))
        else:
            found.append(word)
    return tuple(found)


class Sheet:
    """A code while its lines are read, and the indexes of the lines that its cells stand in."""

    def __init__(self):
        self.votes = None
        self.size = None
        self.bank = None
        self.inside = []
        self.rows = []

    def add_line(self, at, items):
        """Adds the items of the line with this index; whether they fit behind those ahead."""
        if self.votes is None:
            self.votes = items[1:]
            return items[0] == "votes" and is_votes(self.votes)
        if self.size is None:
            self.size = items[-1]
            return items[0] == "size" and len(items) == 2 and is_within(self.size, LEAST_SIZE, GREATEST_SIZE)
        if self.bank is None:
            self.bank = items[1:]
            return items[0] == "bank" and is_bank(self.bank, self.size)
        self.inside.append(items)
        self.rows.append(at)
        # Goals may lie ahead of cells that are still to come.
        bounds = Bounds(len(self.votes), self.size, len(self.bank), MOST_CELLS)
        return len(self.inside) <= MOST_CELLS and fits_cell(bounds, items)

    def wrong_goal(self):
        """The index of the first line with a goal that is no address; None if there is none."""
        for at, cell in zip(self.rows, self.inside):
            if cell[0] in ("goto", "turn") and cell[1] >= len(self.inside):
                return at
        return None


def code_of(text):
    """The code that a text tells."""
    if not isinstance(text, str):
        raise BadCodeText(None)
    sheet = Sheet()
    lines = text.split("\n")
    for at, line in enumerate(lines):
        if line != "" and not line.startswith(REMARK) and not sheet.add_line(at, items_of(line)):
            raise BadCodeText(at)
    if not sheet.inside:
        raise BadCodeText(len(lines))
    at = sheet.wrong_goal()
    if at is not None:
        raise BadCodeText(at)
    return (sheet.votes, sheet.size, tuple(sheet.inside), sheet.bank)
