"""Reading programs from tokens, up to the first wrong one.

Nodes are counted as soon as it is sure that they must come, so that a token
is refused if it leaves no room for them.
"""

from hueward.errors import BadText
from hueward.programs import DIGITS, GREATEST_PORT, GREATEST_SIZE, LEAST_SIZE, LETTERS, MOST_ARRAYS, MOST_DEPTH
from hueward.programs import MOST_FUNCTIONS, MOST_NODES, MOST_PARAMS, MOST_VALUES, Scope, is_name
from hueward.tokens import LINE_END, TEXT_END
from hueward.trees import SHAPES

SIGNS = {"+": "plus", "-": "minus", "*": "times", "rest": "rest", "<": "less", "=": "same"}


class Reader:
    """Tokens, and how many were read.

    A lenient one passes over no wrong token either, but is cut there: from
    then on whatever must come is made up.
    """

    def __init__(self, tokens, lenient):
        self.tokens = tokens
        self.at = 0
        self.lenient = lenient
        self.cut = False

    def coming(self):
        """The word of the token that comes; empty if it is cut."""
        if self.cut:
            return ""
        return self.tokens[self.at][3]

    def indent(self):
        """The indent of the token that comes; None if it has none or it is cut."""
        if self.cut:
            return None
        return self.tokens[self.at][2]

    def comes(self, word, indent=None):
        """Whether a token with this word and indent comes."""
        return not self.cut and self.coming() == word and self.indent() == indent

    def take(self):
        """Goes on behind the token that comes."""
        self.at += 1

    def expect(self, word, indent=None):
        """Goes on behind a token with this word and indent, which must come."""
        if self.comes(word, indent):
            self.take()
        else:
            self.refuse()

    def refuse(self):
        """The token that comes is wrong."""
        if not self.lenient:
            token = self.tokens[self.at]
            raise BadText(token[0], token[1])
        self.cut = True


def is_word_of_whole(word, low, high):
    """Whether a word writes a whole from low to high, without zeros ahead."""
    # No whole of a text has more than five digits.
    if not 1 <= len(word) <= 5 or not all([sign in DIGITS for sign in word]):
        return False
    return str(int(word)) == word and low <= int(word) <= high


def fits(scope, many, depth):
    """Whether so many nodes more, at this depth, fit into the part."""
    return many == 0 or scope.many + many <= MOST_NODES and depth <= MOST_DEPTH


def read_whole(reader, low, high):
    """The whole that comes; low if it is made up."""
    word = reader.coming()
    if is_word_of_whole(word, low, high):
        reader.take()
        return int(word)
    reader.refuse()
    return low


def read_name(reader, taken):
    """The name that comes, none of those that are taken; a letter if it is made up."""
    word = reader.coming()
    if is_name(word) and word not in taken:
        reader.take()
        return word
    reader.refuse()
    return [letter for letter in LETTERS if letter not in taken][0]


def read_arrays(reader, size):
    """The arrays that come."""
    found = []
    names = []
    while len(found) < MOST_ARRAYS and reader.comes("array", 0):
        reader.take()
        name = read_name(reader, names)
        numbers = [read_whole(reader, 0, size - 1)]
        while len(numbers) < MOST_VALUES and is_word_of_whole(reader.coming(), 0, size - 1):
            numbers.append(read_whole(reader, 0, size - 1))
        reader.expect(LINE_END)
        found.append((name, tuple(numbers)))
        names.append(name)
    return tuple(found)


def read_functions(reader, size, arrays, runnable):
    """The functions that come; the counts of their params are put into runnable."""
    found = []
    while len(found) < MOST_FUNCTIONS and reader.comes("function", 0):
        reader.take()
        name = read_name(reader, arrays + list(runnable))
        params = []
        while len(params) < MOST_PARAMS and is_name(reader.coming()) and reader.coming() not in params:
            params.append(read_name(reader, params))
        reader.expect(LINE_END)
        body = read_body(reader, Scope(size, arrays, runnable, False), 1)
        found.append((name, tuple(params), body))
        runnable[name] = len(params)
    return tuple(found)


def read_program(reader):
    """The program that comes, up to the end of the text."""
    reader.expect("size", 0)
    size = read_whole(reader, LEAST_SIZE, GREATEST_SIZE)
    reader.expect(LINE_END)
    arrays = read_arrays(reader, size)
    names = [array[0] for array in arrays]
    runnable = {}
    functions = read_functions(reader, size, names, runnable)
    reader.expect("main", 0)
    reader.expect(LINE_END)
    body = read_body(reader, Scope(size, names, runnable, True), 1)
    reader.expect(TEXT_END)
    return (size, arrays, functions, body)


def least_nodes(word):
    """How many nodes a statement that begins with this word has at least."""
    if word == "stop" or word == "mark" or word == "take":
        return 1
    return 2


def may_begin(word, scope, depth):
    """Whether a statement at this depth may begin with this word."""
    if word == "mark" and not scope.is_main or word == "give" and scope.is_main:
        return False
    if word not in ("if", "while", "show", "give", "take", "stop", "mark") and not is_name(word):
        return False
    many = least_nodes(word)
    return fits(scope, many, depth + many - 1)


def read_body(reader, scope, depth):
    """The statements that come at this depth, up to a token that begins none."""
    found = []
    while reader.indent() == 2 * depth and may_begin(reader.coming(), scope, depth):
        found.append(read_statement(reader, scope, depth))
    return tuple(found)


def read_statement(reader, scope, depth):
    """The statement whose first word comes."""
    word = reader.coming()
    reader.take()
    scope.many += least_nodes(word)
    if is_name(word):
        return read_assignment(reader, scope, depth, word)
    result = [word]
    for kind in SHAPES[word]:
        if kind == "name":
            result.append(read_name(reader, ()))
        elif kind == "port":
            result.append(read_whole(reader, 0, GREATEST_PORT))
        elif kind == "expression":
            result.append(read_expression(reader, scope, depth + 1))
    reader.expect(LINE_END)
    if word == "if" or word == "while":
        result.append(read_body(reader, scope, depth + 1))
    if word == "if":
        result.append(read_else(reader, scope, depth))
    return tuple(result)


def read_assignment(reader, scope, depth, name):
    """The let or put behind whose name the reader stands."""
    if comes_index(reader, scope, depth, name):
        index = read_index(reader, scope, depth)
        reader.expect("=")
        value = read_expression(reader, scope, depth + 1)
        reader.expect(LINE_END)
        return ("put", name, index, value)
    reader.expect("=")
    value = read_expression(reader, scope, depth + 1)
    reader.expect(LINE_END)
    return ("let", name, value)


def read_else(reader, scope, depth):
    """The second body of an if at this depth; empty if no else comes."""
    if not reader.comes("else", 2 * depth) or not fits(scope, 1, depth + 1):
        return ()
    reader.take()
    reader.expect(LINE_END)
    body = read_body(reader, scope, depth + 1)
    if not body:
        reader.refuse()
        return (("stop",),)
    return body


def read_expression(reader, scope, depth):
    """The expression that comes, which is counted already; the number 0 if it is made up."""
    word = reader.coming()
    if word == "(" and fits(scope, 2, depth + 1):
        return read_pair(reader, scope, depth)
    if is_word_of_whole(word, 0, scope.size - 1):
        reader.take()
        return ("number", int(word))
    if is_name(word):
        reader.take()
        return read_named(reader, scope, depth, word)
    reader.refuse()
    return ("number", 0)


def read_pair(reader, scope, depth):
    """The expression of two operands whose ( comes."""
    reader.take()
    scope.many += 2
    one = read_expression(reader, scope, depth + 1)
    word = SIGNS.get(reader.coming())
    if word is None:
        reader.refuse()
        word = "plus"
    else:
        reader.take()
    other = read_expression(reader, scope, depth + 1)
    reader.expect(")")
    return (word, one, other)


def read_named(reader, scope, depth, name):
    """The cell, run or local behind whose name the reader stands."""
    if comes_index(reader, scope, depth, name):
        return ("cell", name, read_index(reader, scope, depth))
    if name in scope.runnable and reader.comes("(") and fits(scope, scope.runnable[name], depth + 1):
        return ("run", name, read_arguments(reader, scope, depth, scope.runnable[name]))
    return ("local", name)


def comes_index(reader, scope, depth, name):
    """Whether an index comes that may stand behind this name."""
    return name in scope.arrays and reader.comes("[") and fits(scope, 1, depth + 1)


def read_index(reader, scope, depth):
    """The index whose [ comes, up to its ]."""
    reader.take()
    scope.many += 1
    index = read_expression(reader, scope, depth + 1)
    reader.expect("]")
    return index


def read_arguments(reader, scope, depth, many):
    """The tuple of so many arguments whose ( comes, up to its )."""
    reader.take()
    scope.many += many
    found = []
    for at in range(many):
        if at > 0:
            reader.expect(",")
        found.append(read_expression(reader, scope, depth + 1))
    reader.expect(")")
    return tuple(found)
