"""Writing programs as texts, and where each node stands there."""

from hueward.trees import SHAPES

# What is written for each node: strings as they are, and for a whole the item
# of the node at this index.
WRITTEN = {
    "let": (1, " = ", 2),
    "put": (1, "[", 2, "] = ", 3),
    "if": ("if ", 1),
    "while": ("while ", 1),
    "show": ("show ", 1, " ", 2),
    "take": ("take ", 1),
    "give": ("give ", 1),
    "stop": ("stop",),
    "mark": ("mark",),
    "number": (1,),
    "local": (1,),
    "cell": (1, "[", 2, "]"),
    "plus": ("(", 1, " + ", 2, ")"),
    "minus": ("(", 1, " - ", 2, ")"),
    "times": ("(", 1, " * ", 2, ")"),
    "rest": ("(", 1, " rest ", 2, ")"),
    "less": ("(", 1, " < ", 2, ")"),
    "same": ("(", 1, " = ", 2, ")"),
    "run": (1, "(", 2, ")"),
}


class Page:
    """The lines that are written, the one begun last, and the spots of a part's nodes."""

    def __init__(self):
        self.lines = []
        self.line = ""
        self.spots = []

    def add_text(self, text):
        """Adds a text to the line that is begun."""
        self.line = self.line + text

    def end_line(self):
        """Ends the line and begins another one."""
        self.lines.append(self.line)
        self.line = ""

    def note_spot(self):
        """The next node begins here."""
        self.spots.append((len(self.lines) + 1, len(self.line) + 1))


def write_node(page, node):
    """Writes an expression, or a statement without its bodies."""
    page.note_spot()
    for piece in WRITTEN[node[0]]:
        if isinstance(piece, str):
            page.add_text(piece)
        else:
            write_field(page, SHAPES[node[0]][piece - 1], node[piece])


def write_field(page, kind, field):
    """Writes an item of a node, of any kind but body."""
    if kind == "expression":
        write_node(page, field)
    elif kind == "arguments":
        for at, node in enumerate(field):
            if at > 0:
                page.add_text(", ")
            write_node(page, node)
    else:
        page.add_text(str(field))


def write_body(page, body, depth):
    """Writes the statements of a body, which have this depth."""
    for node in body:
        page.add_text("  " * depth)
        write_node(page, node)
        page.end_line()
        if node[0] == "while" or node[0] == "if":
            write_body(page, node[2], depth + 1)
        if node[0] == "if" and node[3]:
            page.add_text("  " * depth + "else")
            page.end_line()
            write_body(page, node[3], depth + 1)


def write_line(page, words):
    """Writes a line of words with blanks between them."""
    page.add_text(" ".join(words))
    page.end_line()


def written(program):
    """The pair of the lines of a program's text and a dict from parts to the spots of their nodes."""
    size, arrays, functions, body = program
    page = Page()
    write_line(page, ["size", str(size)])
    for name, numbers in arrays:
        write_line(page, ["array", name] + [str(number) for number in numbers])
    spots = {}
    for name, params, inside in functions:
        write_line(page, ["function", name] + list(params))
        page.spots = []
        write_body(page, inside, 1)
        spots[name] = page.spots
    write_line(page, ["main"])
    page.spots = []
    write_body(page, body, 1)
    spots["main"] = page.spots
    return (page.lines, spots)
