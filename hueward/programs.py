"""Programs, their parts and their nodes."""

from hueward.checks import is_within
from hueward.errors import BadNode, BadPlace, BadProgram, BadSize, BadTable, NoPart
from hueward.trees import EXPRESSIONS, SHAPES, STATEMENTS
from hueward.trees import body_renamed, body_with, listed, listed_depths

LETTERS = "abcdefghijklmnopqrstuvwxyz"
DIGITS = "0123456789"
TEXT_WORDS = (
    "array", "else", "function", "give", "if", "main", "mark", "rest", "show", "size", "stop", "take", "while",
)
LONGEST_NAME = 8
LEAST_SIZE = 2
GREATEST_SIZE = 10000
MOST_ARRAYS = 6
MOST_VALUES = 64
MOST_FUNCTIONS = 6
MOST_PARAMS = 4
GREATEST_PORT = 5
MOST_NODES = 120
MOST_DEPTH = 10


class Scope:
    """What the nodes of one part may name, and how many of them were looked at."""

    def __init__(self, size, arrays, runnable, is_main):
        self.size = size
        self.arrays = arrays
        self.runnable = runnable
        self.is_main = is_main
        self.many = 0


def is_name(value):
    """Whether a value is a name."""
    if not isinstance(value, str) or not 1 <= len(value) <= LONGEST_NAME:
        return False
    if value in TEXT_WORDS or value[0] not in LETTERS:
        return False
    return all([sign in LETTERS or sign in DIGITS for sign in value])


def is_program(value):
    """Whether a value is a program."""
    if not isinstance(value, tuple) or len(value) != 4:
        return False
    size, arrays, functions, body = value
    if not is_within(size, LEAST_SIZE, GREATEST_SIZE) or not are_arrays(arrays, size):
        return False
    if not isinstance(functions, tuple) or len(functions) > MOST_FUNCTIONS:
        return False
    names = [array[0] for array in arrays]
    # It grows from function to function: each one runs only those ahead of it.
    runnable = {}
    for function in functions:
        if not is_function(function, Scope(size, names, runnable, False)):
            return False
        runnable[function[0]] = len(function[1])
    return is_body(body, Scope(size, names, runnable, True), STATEMENTS, 1)


def are_arrays(value, size):
    """Whether a value is the tuple of the arrays of a program of this size."""
    if not isinstance(value, tuple) or len(value) > MOST_ARRAYS:
        return False
    names = []
    for array in value:
        if not isinstance(array, tuple) or len(array) != 2:
            return False
        name, numbers = array
        if not is_name(name) or name in names:
            return False
        if not isinstance(numbers, tuple) or not 1 <= len(numbers) <= MOST_VALUES:
            return False
        if not all([is_within(number, 0, size - 1) for number in numbers]):
            return False
        names.append(name)
    return True


def is_function(value, scope):
    """Whether a value is a function, the next one behind those that it may run."""
    if not isinstance(value, tuple) or len(value) != 3:
        return False
    name, params, body = value
    if not is_name(name) or name in scope.arrays or name in scope.runnable:
        return False
    if not isinstance(params, tuple) or len(params) > MOST_PARAMS:
        return False
    if not all([is_name(param) for param in params]) or len(set(params)) != len(params):
        return False
    return is_body(body, scope, STATEMENTS, 1)


def is_body(value, scope, words, depth):
    """Whether a value is a tuple of nodes with these words, at this depth."""
    if not isinstance(value, tuple):
        return False
    for node in value:
        if not is_node(node, scope, words, depth):
            return False
    return True


def is_node(value, scope, words, depth):
    """Whether a value is a node with one of these words, at this depth."""
    scope.many += 1
    if scope.many > MOST_NODES or depth > MOST_DEPTH:
        return False
    if not isinstance(value, tuple) or len(value) == 0 or not isinstance(value[0], str):
        return False
    word = value[0]
    if word not in words or len(value) != 1 + len(SHAPES[word]):
        return False
    if word == "give" and scope.is_main or word == "mark" and not scope.is_main:
        return False
    for kind, field in zip(SHAPES[word], value[1:]):
        if not is_field(field, scope, kind, depth):
            return False
    return word != "run" or len(value[2]) == scope.runnable[value[1]]


def is_field(value, scope, kind, depth):
    """Whether a value is an item of this kind of a node at this depth."""
    if kind == "expression":
        return is_node(value, scope, EXPRESSIONS, depth + 1)
    if kind == "body":
        return is_body(value, scope, STATEMENTS, depth + 1)
    if kind == "arguments":
        return is_body(value, scope, EXPRESSIONS, depth + 1)
    if kind == "number":
        return is_within(value, 0, scope.size - 1)
    if kind == "port":
        return is_within(value, 0, GREATEST_PORT)
    if not is_name(value):
        return False
    if kind == "array":
        return value in scope.arrays
    return kind == "name" or value in scope.runnable


def check_program(program):
    """BadProgram unless this is a program."""
    if not is_program(program):
        raise BadProgram("this is no program")


def has_part(program, part):
    """Whether any value is the name of a part of a program."""
    return isinstance(part, str) and part in names_of_parts(program)


def check_part(program, part):
    """NoPart unless this is the name of a part of the program."""
    if not has_part(program, part):
        raise NoPart(part)


def check_place(program, place):
    """BadPlace unless this is the place of a node of the program."""
    if not isinstance(place, tuple) or len(place) != 2 or not has_part(program, place[0]):
        raise BadPlace("a place is a pair of the name of a part and an index")
    if not is_within(place[1], 0, len(listed(body_of(program, place[0]))) - 1):
        raise BadPlace("the part has no node at this index")


def names_of_parts(program):
    """The names of the parts, main last."""
    return tuple([function[0] for function in program[2]] + ["main"])


def body_of(program, part):
    """The body of a part."""
    for name, _, body in program[2]:
        if name == part:
            return body
    return program[3]


def params_of(program, part):
    """The params of a part; main has none."""
    for name, params, _ in program[2]:
        if name == part:
            return params
    return ()


def local_names(program, part):
    """The params of a part, then the other names of its let, take and local nodes, ascending."""
    params = params_of(program, part)
    found = []
    for node in listed(body_of(program, part)):
        if node[0] in ("let", "take", "local") and node[1] not in params:
            found.append(node[1])
    return list(params) + sorted(set(found))


def part_names(program):
    """The tuple of the names of the parts, main last."""
    check_program(program)
    return names_of_parts(program)


def nodes(program, part):
    """The list of the nodes of a part, in the order of the text."""
    check_program(program)
    check_part(program, part)
    return listed(body_of(program, part))


def node_at(program, place):
    """The node at a place."""
    check_program(program)
    check_place(program, place)
    return listed(body_of(program, place[0]))[place[1]]


def depth_of(program, place):
    """The depth of the node at a place, 1 for a statement of the part's body."""
    check_program(program)
    check_place(program, place)
    return listed_depths(body_of(program, place[0]), 1)[place[1]]


def with_node(program, place, node):
    """The program with another node at a place."""
    check_program(program)
    check_place(program, place)
    part, at = place
    size, arrays, functions, body = program
    changed = []
    for name, params, inside in functions:
        if name == part:
            changed.append((name, params, body_with(inside, at, node)))
        else:
            changed.append((name, params, inside))
    if part == "main":
        body = body_with(body, at, node)
    result = (size, arrays, tuple(changed), body)
    if not is_program(result):
        raise BadNode("with this node it would be no program")
    return result


def functions_run(program, part):
    """The ascending list of the functions that running a part may run, through others too."""
    found = []
    waiting = [part]
    while waiting:
        name = waiting.pop()
        for node in listed(body_of(program, name)):
            if node[0] == "run" and node[1] not in found:
                found.append(node[1])
                waiting.append(node[1])
    return sorted(found)


def runs_of(program, part):
    """The ascending tuple of the functions that running a part may run."""
    check_program(program)
    check_part(program, part)
    return tuple(functions_run(program, part))


def ports_of(program, part):
    """The ascending tuple of the ports at which running a part may show."""
    check_program(program)
    check_part(program, part)
    ports = []
    for name in [part] + functions_run(program, part):
        ports.extend([node[1] for node in listed(body_of(program, name)) if node[0] == "show"])
    return tuple(sorted(set(ports)))


def renamed(program, table):
    """The program with other names, those of the table, all at once."""
    check_program(program)
    if not isinstance(table, dict):
        raise BadTable("a table is a dict")
    if not all([is_name(old) and is_name(new) for old, new in table.items()]):
        raise BadTable("a table leads from names to names")
    size, arrays, functions, body = program
    changed = []
    for name, params, inside in functions:
        others = tuple([table.get(param, param) for param in params])
        changed.append((table.get(name, name), others, body_renamed(inside, table)))
    told = tuple([(table.get(name, name), numbers) for name, numbers in arrays])
    result = (size, told, tuple(changed), body_renamed(body, table))
    if not is_program(result):
        raise BadTable("with these names it would be no program")
    return result


def resized(program, size):
    """The program with another size."""
    check_program(program)
    if not is_within(size, LEAST_SIZE, GREATEST_SIZE):
        raise BadSize(f"a size is a whole from {LEAST_SIZE} to {GREATEST_SIZE}")
    result = (size,) + program[1:]
    if not is_program(result):
        raise BadSize("a number of the program is not below this size")
    return result
