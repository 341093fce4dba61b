"""Programs for the tests of compiling, and what these tests have in common."""

from hueward.errors import TooLarge
from hueward.compiling import compiled
from hueward.flows import flows, things
from hueward.machine import Machine
from hueward.meaning import Run
from hueward.programs import nodes, part_names
from hueward.progtexts import program_of
from hueward.widths import least_widths
from tests.samples import FULL, PROGRAM_16, PROGRAM_21, crowded_programs, some_programs

WORDS_OF_SETTLES = ("show", "turn", "take", "goto", "stop", "mark")


def text_of(block):
    """A text of a block of rows that stand some blanks too far right."""
    rows = [row for row in block.split("\n") if row.strip()]
    blanks = min([len(row) - len(row.lstrip()) for row in rows])
    return "\n".join([row[blanks:] for row in rows])


def told(block):
    """The program of a text that stands some blanks too far right."""
    return program_of(text_of(block))


# Functions that are run from everywhere.
FUNCTIONS = """
    size 10
    array a 3 1 4 1 5
    function f x y
      z = (z + x)
      if (y < z)
        give (z - y)
      a[x] = (a[y] + 1)
      give (x * y)
    function g x
      while (x < 7)
        x = (x + f(1, 2))
        if (x = 6)
          give f(f(x, 1), x)
      give a[f(x, x)]
    main
      take n
      take k
"""
# As operands, as arguments of runs of the same function and of others, as indexes, in tests.
PLACES_OF_RUNS = (
    """
      show 0 f(f(n, k), f(1, n))
    """,
    """
      show 0 f(1, f(2, f(n, f(k, 3))))
    """,
    """
      show 1 ((f(n, 2) - f(3, k)) * g(n))
    """,
    """
      show 1 (n - (f(k, n) + (3 * g(k))))
    """,
    """
      show 2 a[a[f(n, a[g(k)])]]
    """,
    """
      a[f(n, k)] = g(f(k, n))
      show 5 a[k]
      show 5 a[n]
    """,
    """
      n = f(g(n), k)
      show 5 (n rest k)
      k = g(f(k, n))
      show 5 (k = n)
    """,
    """
      if f(n, k)
        show 3 g(n)
      else
        show 3 g(k)
    """,
    """
      while (f(n, 1) < g(k))
        n = (n + 1)
        k = g((k + n))
        show 4 (n = f(k, n))
        if (n = 9)
          stop
      show 4 n
    """,
)
RUNS = [told(FUNCTIONS.rstrip() + place) for place in PLACES_OF_RUNS]
ALL_RUNS = told(FUNCTIONS.rstrip() + "".join([place.rstrip() for place in PLACES_OF_RUNS[1:]]))

# Loops within loops, gives amid them, stops and marks.
LOOPS = told("""
    size 100
    array s 0 0 0
    function sum n
      while 1
        t = (t + n)
        if (n < 2)
          while (t < 99)
            s[n] = (s[n] + 1)
            give t
        n = (n - 1)
    function nothing p q
      s[p] = q
    main
      take n
      while (i < n)
        j = 0
        while (j < i)
          k = j
          while k
            k = (k - 1)
            show 1 ((i * j) + k)
          j = (j + 1)
        mark
        i = (i + 1)
        show 0 sum(i)
        show 2 nothing(i, j)
        if (i = 5)
          mark
          stop
      show 3 s[1]
      take n
""")


# A function that now gives a number, now comes to its end, which gives 0.
FALLING = told("""
    size 10
    function f x
      if x
        y = (y + x)
        give (y + 3)
    main
      show 0 f(4)
      show 0 f(0)
      take n
      show 1 (f(n) + f((n - 1)))
      show 1 (f(1) + f(0))
""")
# Bank cells for locals alone, and long bodies, in which nothing waits.
TIGHT = (10, (), tuple([("f" + str(at), ("a", "b", "c", "d"), ()) for at in range(6)]), ())
LONG = (10, (), (("f", (), (("if", ("number", 1), (("stop",),) * 100, (("stop",),) * 10),)),),
        (("while", ("number", 1), (("stop",),) * 110),))


def deep_programs():
    """Programs with expressions up to nine deep, of each word, on either side."""
    found = []
    for word in ("plus", "minus", "times", "rest", "less", "same"):
        for left in (True, False):
            value = ("local", "x")
            for depth in range(6):
                other = ("cell", "a", ("plus", ("local", "x"), ("number", depth))) if depth > 1 else ("number", depth)
                value = (word, value, other) if left else (word, other, value)
            value = ("run", "f", (value, ("number", 3)))
            body = (("take", "x"), ("show", 0, value), ("put", "a", value, value), ("show", 1, ("cell", "a", value)))
            function = ("f", ("p", "q"), (("give", (word, ("local", "p"), ("local", "q"))),))
            found.append((10, (("a", (7, 2, 9, 4)),), (function,), body))
    return found


def full_runs():
    """A program whose runs have four arguments each, the last one a run again, as deep as can be."""
    value = ("local", "x")
    for at in range(8):
        value = ("run", "f", (("number", at), ("local", "x"), ("plus", ("number", at), ("number", 1)), value)
                 if at else (("number", 1), ("number", 2), ("local", "x"), value))
    f = ("f", ("a", "b", "c", "d"), (
        ("give", ("plus", ("times", ("local", "a"), ("local", "b")), ("minus", ("local", "c"), ("local", "d")))),
    ))
    return (100, (("t", (5, 6, 7)),), (f,), (("take", "x"), ("put", "t", ("local", "x"), value),
                                             ("show", 0, ("cell", "t", ("local", "x")))))


def many_runs(size, many):
    """A program with so many runs of one function, each of which leads back to another place."""
    total = ("plus", ("local", "n"), ("local", "p"))
    f = ("f", ("p",), (("let", "n", total), ("give", ("plus", ("local", "n"), ("number", 1)))))
    body = [("show", at % 6, ("run", "f", (("number", at % size),))) for at in range(many)]
    return (size, (), (f,), tuple(body) + (("stop",),))


HAND_MADE = RUNS + [FALLING, TIGHT, LONG, FULL, PROGRAM_16, PROGRAM_21, ALL_RUNS, LOOPS, full_runs()]
HAND_MADE += [(2, (), (), ()), (10, (), (), (("mark",),))]
HAND_MADE += deep_programs() + [many_runs(size, many) for size in (2, 3, 10) for many in (1, 2, 3, 4, 5, 9, 10, 11)]


def all_programs(many, crowded):
    """Programs made by hand and at random."""
    return HAND_MADE + some_programs(many, 60) + crowded_programs(crowded)


def made(program, votes, widths=None):
    """The code of a program; None if it would be too large."""
    try:
        return compiled(program, votes, widths)
    except TooLarge:
        return None


def digits(program, name):
    """The digits of a function."""
    runs = len([node for part in part_names(program) for node in nodes(program, part) if node[:2] == ("run", name)])
    many = 0
    while program[0] ** many < runs:
        many += 1
    return many


def locals_of(program, part):
    """The names of the locals of a part."""
    params = [function[1] for function in program[2] if function[0] == part]
    return {name for names in params for name in names} | {
        node[1] for node in nodes(program, part) if node[0] in ("let", "take", "local")
    }


def sums(program):
    """The sums S and B of [31]."""
    cells = bank = 0
    for part in part_names(program):
        inside = nodes(program, part)
        cells += 6 * len(inside) + 2 * len(locals_of(program, part)) + 8
        cells += sum([24 + 10 * digits(program, node[1]) for node in inside if node[0] == "run"])
        bank += len(locals_of(program, part)) + 2 + min(40, len(inside))
        bank += digits(program, part) if part != "main" else 0
    return (cells, bank + sum([len(values) for _, values in program[1]]))


def bound(program):
    """The number q of [32]."""
    runs = [node for part in part_names(program) for node in nodes(program, part) if node[0] == "run"]
    locals_many = sum([len(locals_of(program, part)) for part in part_names(program)])
    return 100 + 60 * (len(runs) + locals_many + len(part_names(program)))


def blocks(code):
    """The blocks of a code: pairs of the first address and the list of the cells."""
    starts = {0}
    for at, cell in enumerate(code[2]):
        if cell[0] in WORDS_OF_SETTLES:
            starts.add(at + 1)
        if cell[0] in ("goto", "turn"):
            starts.add(cell[1])
    found = []
    for at, cell in enumerate(code[2]):
        if at in starts:
            found.append((at, []))
        found[-1][1].append(cell)
    return found


def is_instruction_cell(cell):
    """Whether a cell is an instruction."""
    return isinstance(cell[0], int)


def fit_widths(program, hues, chance):
    """Some fit widths of a program, made at random."""
    ports = [port for port in (0, 1, 2, 3, 4, 5, "takes", "loops") if chance.random() < 0.7]
    widths = least_widths(program, hues, {port: chance.randint(1, hues) for port in ports})
    for _ in range(chance.randrange(3)):
        thing = chance.choice(things(program))
        widths[thing] = max(widths[thing], chance.randint(0, hues))
    raise_all(program, widths)
    return widths


def raise_all(program, widths):
    """Raises the width of each thing that flows into one of a greater width."""
    found = flows(program)
    again = True
    while again:
        again = False
        for first, last in found:
            if widths[first] < widths[last]:
                widths[first] = widths[last]
                again = True


def run_of(program, inputs, steps):
    """A run behind so many steps."""
    run = Run(program, inputs)
    run.go(steps)
    return run


def machine_of(code, inputs, steps):
    """An unstruck machine behind so many steps."""
    machine = Machine(code, inputs)
    machine.go(steps)
    return machine


def is_beginning(one, other):
    """Whether one of two lists is a beginning of the other one."""
    return one[:len(other)] == other[:len(one)]


def shown_at(row, thing):
    """What a row shows at a port, or the numbers that it takes."""
    if thing[0] == "port":
        return [item[2] for item in row if item[0] == "show" and item[1] == thing[1]]
    return [item[1] for item in row if item[0] == "take"]
