"""The spots of all hues of a machine in one row, and which of them steps use.

Each hue has its registers, its bank cells, its pointer and its slot, in this
sequence, which is that of single strikes; those of one hue stand behind those
of the hue ahead of it. The place of a spot in the row is its index.
"""

from hueward.cells import REGISTERS, is_settle_cell
from hueward.words import WORDS
from hueward.works import agreed_of, fetched, state_of

READ = "read"
SET = "set"


def each_of(code):
    """How many spots each hue of a code has."""
    return REGISTERS + len(code[3]) + 2


def spot_index(code, hue, place):
    """The index of the spot at a place of a hue."""
    first = hue * each_of(code)
    if place[0] == "register":
        return first + place[1]
    if place[0] == "cell":
        return first + REGISTERS + place[1]
    return first + REGISTERS + len(code[3]) + int(place[0] == "slot")


def place_of(code, spot):
    """The place of the spot with an index."""
    at = spot % each_of(code)
    if at < REGISTERS:
        return ("register", at)
    if at < REGISTERS + len(code[3]):
        return ("cell", at - REGISTERS)
    return ("slot",) if at % each_of(code) == each_of(code) - 1 else ("pointer",)


def slot_spots(code, width):
    """The list of the spots of the slots of the hues below a width."""
    each = each_of(code)
    return [(hue + 1) * each - 1 for hue in range(width)]


def state_spots(code):
    """The list of the spots of the registers and bank cells of all hues."""
    each = each_of(code)
    return [hue * each + at for hue in range(len(code[0])) for at in range(each - 2)]


def value_at(code, works, spot):
    """What works have at a spot."""
    each = each_of(code)
    hue = spot // each
    at = spot % each
    if at < REGISTERS:
        return works.numbers[hue][at]
    if at < each - 2:
        return works.banks[hue][at - REGISTERS]
    if at == each - 2:
        return works.heads[hue]
    return works.offers[hue]


def put_value(code, works, spot, value):
    """Gives a spot of works a value."""
    each = each_of(code)
    hue = spot // each
    at = spot % each
    if at < REGISTERS:
        works.numbers[hue][at] = value
    elif at < each - 2:
        works.banks[hue][at - REGISTERS] = value
    elif at == each - 2:
        works.heads[hue] = value
    else:
        works.offers[hue] = value


def registers_read(cell):
    """The list of the registers whose values an instruction needs."""
    if cell[1] in WORDS:
        return [cell[3], cell[4]]
    if cell[1] == "get":
        return [cell[3]]
    if cell[1] == "put":
        return [cell[2], cell[3]]
    if cell[1] == "offer":
        return [cell[2]]
    return []


def cells_reached(code, cell):
    """The list of the spots of the bank cells that a get or put may mean."""
    first = cell[0] * each_of(code) + REGISTERS + cell[4]
    return [first + at for at in range(cell[5])]


def spot_set(code, cell):
    """The spot that an instruction but put sets: a register or the slot."""
    if cell[1] == "offer":
        return (cell[0] + 1) * each_of(code) - 1
    return cell[0] * each_of(code) + cell[2]


def used_by_row(code, works, cell):
    """What works use by an instruction: a dict from spots to words."""
    hue = cell[0]
    found = {hue * each_of(code) + at: READ for at in registers_read(cell)}
    if cell[1] == "get" or cell[1] == "put":
        meant = cells_reached(code, cell)[works.numbers[hue][cell[3]] % cell[5]]
        found[meant] = READ if cell[1] == "get" else SET
    if cell[1] != "put":
        found.setdefault(spot_set(code, cell), SET)
    return found


def used_by_settle(code, works, cell):
    """What works use by a settle: a dict from spots to words."""
    word = cell[0]
    votes = code[0]
    slots = slot_spots(code, len(votes))
    if word == "show" or word == "turn":
        found = {spot: READ for spot in slots[:cell[2]]}
        if agreed_of(works.offers[:cell[2]], votes[cell[2] - 1]) is not None:
            found.update({spot: SET for spot in slots[cell[2]:]})
        return found
    if word == "take":
        return {hue * each_of(code) + cell[1]: SET for hue in range(cell[2])}
    if word == "mark":
        found = {spot: READ for spot in state_spots(code)}
        if agreed_of([state_of(works, hue) for hue in range(len(votes))], votes[-1]) is not None:
            found.update({spot: SET for spot in slots})
        return found
    return {}


def used_by(code, works):
    """What works that are running use by the next step, without pointers: a dict from spots to words."""
    at = fetched(works)
    if at is None:
        return {}
    if is_settle_cell(works.tape[at]):
        return used_by_settle(code, works, works.tape[at])
    return used_by_row(code, works, works.tape[at])
