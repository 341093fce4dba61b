"""What a machine holds, and what each of its steps does."""

from hueward.cells import REGISTERS, is_settle_cell
from hueward.words import WORDS, worth


class Works:
    """Everything of a machine that changes, the code that it began with, and the strikes.

    The tape holds the cells of the code; an instruction in it is the own one
    of its hue. It is a tuple, so that twins share it. Of the strikes, as many
    as struck_many tells are done.
    """

    def __init__(self, code, inputs, strikes):
        votes, size, inside, bank = code
        self.votes = votes
        self.size = size
        self.first_tape = inside
        self.tape = inside
        self.numbers = [[0] * REGISTERS for _ in votes]
        self.banks = [list(bank) for _ in votes]
        self.heads = [0] * len(votes)
        self.offers = [None] * len(votes)
        self.given = list(inputs)
        self.taken = 0
        self.planned = list(strikes)
        self.struck_many = 0
        self.shown = []
        self.done = 0
        self.word = "running"


def twin_of(works):
    """Independent works at the same moment, with the strikes that are still to come."""
    twin = Works((works.votes, works.size, works.first_tape, ()), works.given, works.planned)
    twin.tape = works.tape
    twin.numbers = [list(numbers) for numbers in works.numbers]
    twin.banks = [list(bank) for bank in works.banks]
    twin.heads = list(works.heads)
    twin.offers = list(works.offers)
    twin.taken = works.taken
    twin.struck_many = works.struck_many
    twin.shown = list(works.shown)
    twin.done = works.done
    twin.word = works.word
    return twin


def agreed_of(values, need):
    """The value that stands at least so many times among values; None if there is none."""
    for value in values:
        if value is not None and values.count(value) >= need:
            return value
    return None


def fetched(works):
    """The address on which enough pointers agree; None if there is none."""
    at = agreed_of(works.heads, works.votes[-1])
    if at is None or at >= len(works.tape):
        return None
    return at


def state_of(works, hue):
    """The registers and bank cells of a hue."""
    return (works.numbers[hue], works.banks[hue])


def own_of(works, hue):
    """The list of the own instructions of a hue, by ascending addresses."""
    return [cell for cell in works.tape if cell[0] == hue]


def left_of(works):
    """The list of the inputs that were not taken."""
    return works.given[works.taken:]


def moment_of(works):
    """All of the hues, and the state and the inputs left."""
    found = []
    for hue in range(len(works.votes)):
        numbers, bank = state_of(works, hue)
        found.append((tuple(numbers), tuple(bank), works.heads[hue], works.offers[hue], tuple(own_of(works, hue))))
    return (tuple(found), (works.word, tuple(left_of(works))))


def do_set(works, hue, cell):
    """The register becomes the number."""
    works.numbers[hue][cell[2]] = cell[3]


def do_word(works, hue, cell):
    """The register becomes the value of the word."""
    numbers = works.numbers[hue]
    numbers[cell[2]] = worth(cell[1], numbers[cell[3]], numbers[cell[4]], works.size)


def do_get(works, hue, cell):
    """The register becomes the bank cell."""
    numbers = works.numbers[hue]
    numbers[cell[2]] = works.banks[hue][cell[4] + numbers[cell[3]] % cell[5]]


def do_put(works, hue, cell):
    """The bank cell becomes the register."""
    numbers = works.numbers[hue]
    works.banks[hue][cell[4] + numbers[cell[3]] % cell[5]] = numbers[cell[2]]


def do_offer(works, hue, cell):
    """The slot becomes the register."""
    works.offers[hue] = works.numbers[hue][cell[2]]


def empty_slots(works):
    """All slots of all hues become empty."""
    works.offers = [None] * len(works.votes)


def point_all(works, address):
    """All pointers become the address."""
    works.heads = [address] * len(works.votes)


def settled(works, width):
    """The agreed number of a settle of this width, behind which all slots are empty; None if it is caught."""
    number = agreed_of(works.offers[:width], works.votes[width - 1])
    if number is not None:
        empty_slots(works)
    return number


def do_show(works, cell):
    """Shows the agreed number; whether there is one."""
    number = settled(works, cell[2])
    if number is None:
        return False
    works.shown.append(("show", cell[1], number))
    return True


def do_turn(works, cell):
    """Goes to the goal if the agreed number is not 0; whether there is one."""
    number = settled(works, cell[2])
    if number is None:
        return False
    if number != 0:
        point_all(works, cell[1])
    return True


def do_take(works, cell):
    """Gives the hues below the width the next input, 0 behind the last one."""
    number = 0
    if works.taken < len(works.given):
        number = works.given[works.taken] % works.size
        works.taken += 1
    for hue in range(cell[2]):
        works.numbers[hue][cell[1]] = number
    works.shown.append(("take", number))
    return True


def do_goto(works, cell):
    """Goes to the goal."""
    point_all(works, cell[1])
    return True


def do_stop(works, cell):
    """The machine stops."""
    works.shown.append(("stop",))
    works.word = "stopped"
    return True


def do_mark(works, cell):
    """Gives all hues the agreed state, and their own instructions back; whether there is one."""
    hues = range(len(works.votes))
    state = agreed_of([state_of(works, hue) for hue in hues], works.votes[-1])
    if state is None:
        return False
    numbers, bank = state
    works.numbers = [list(numbers) for _ in hues]
    works.banks = [list(bank) for _ in hues]
    works.tape = works.first_tape
    empty_slots(works)
    return True


DOING = {"set": do_set, "get": do_get, "put": do_put, "offer": do_offer}
SETTLING = {
    "show": do_show,
    "turn": do_turn,
    "take": do_take,
    "goto": do_goto,
    "stop": do_stop,
    "mark": do_mark,
}


def do_cell(works, at):
    """Does the cell at an address; whether it is not caught."""
    cell = works.tape[at]
    behind = [at + 1] * len(works.heads)
    if is_settle_cell(cell):
        before = works.heads
        works.heads = behind
        action = SETTLING[cell[0]]
        if not action(works, cell):
            works.heads = before
            return False
        return True
    works.heads = behind
    if cell[1] in WORDS:
        do_word(works, cell[0], cell)
    else:
        action = DOING[cell[1]]
        action(works, cell[0], cell)
    return True


def do_step(works):
    """Does the next step of works that are running, without the strikes ahead of it."""
    at = fetched(works)
    works.done += 1
    if at is None or not do_cell(works, at):
        works.word = "caught"


def do_strike(works, hue, place, new):
    """Sets one thing of a hue at once."""
    if place[0] == "register":
        works.numbers[hue][place[1]] = new
    elif place[0] == "cell":
        works.banks[hue][place[1]] = new
    elif place[0] == "pointer":
        works.heads[hue] = new
    elif place[0] == "slot":
        works.offers[hue] = new
    else:
        works.tape = works.tape[:place[1]] + (new,) + works.tape[place[1] + 1:]


def do_coming(works):
    """Does the strikes that stand just ahead of the next step."""
    while works.struck_many < len(works.planned) and works.planned[works.struck_many][0] == works.done:
        _, hue, place, new = works.planned[works.struck_many]
        do_strike(works, hue, place, new)
        works.struck_many += 1


def go_on(works, steps):
    """Does so many steps more, fewer if the works are not running any more."""
    for _ in range(steps):
        if works.word != "running":
            break
        do_coming(works)
        do_step(works)
