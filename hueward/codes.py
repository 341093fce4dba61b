"""Codes and lists of strikes."""

from hueward.cells import MOST_BANK, MOST_CELLS, MOST_HUES, REGISTERS
from hueward.cells import bounds_of, fits_cell, fits_instruction, is_settle_cell
from hueward.checks import MOST_STEPS, is_within
from hueward.errors import BadCode, BadHue, BadNew, BadPlace, BadStrikes, BadVotes
from hueward.programs import GREATEST_SIZE, LEAST_SIZE

MOST_STRIKES = 400
GREATEST_POINTER = 9999


def is_votes(value):
    """Whether a value is votes."""
    if not isinstance(value, tuple) or not 1 <= len(value) <= MOST_HUES:
        return False
    for below, need in enumerate(value):
        width = below + 1
        if not is_within(need, 1, width) or not width < 2 * need:
            return False
    return True


def is_bank(value, size):
    """Whether a value is the bank of a code of this size."""
    if not isinstance(value, tuple) or len(value) > MOST_BANK:
        return False
    return all([is_within(number, 0, size - 1) for number in value])


def is_code(value):
    """Whether a value is a code."""
    if not isinstance(value, tuple) or len(value) != 4:
        return False
    votes, size, inside, bank = value
    if not is_votes(votes) or not is_within(size, LEAST_SIZE, GREATEST_SIZE):
        return False
    if not isinstance(inside, tuple) or not 1 <= len(inside) <= MOST_CELLS or not is_bank(bank, size):
        return False
    bounds = bounds_of(value)
    return all([fits_cell(bounds, cell) for cell in inside])


def check_votes(votes):
    """BadVotes unless these are votes."""
    if not is_votes(votes):
        raise BadVotes("these are no votes")


def check_code(code):
    """BadCode unless this is a code."""
    if not is_code(code):
        raise BadCode("this is no code")


def check_hue(code, hue):
    """BadHue unless this is the number of a hue of the code."""
    if not is_within(hue, 0, len(code[0]) - 1):
        raise BadHue(f"a hue is a whole from 0 to {len(code[0]) - 1}")


def hues_of(code):
    """How many hues a code has."""
    check_code(code)
    return len(code[0])


def is_instruction(code, hue, value):
    """Whether a value is an instruction of the hue that may stand in the code."""
    check_code(code)
    check_hue(code, hue)
    return fits_instruction(bounds_of(code), hue, value)


def instructions(code, hue):
    """The list of the pairs (address, instruction) of a hue, ascending."""
    check_code(code)
    check_hue(code, hue)
    return [(at, cell) for at, cell in enumerate(code[2]) if cell[0] == hue]


def settles(code):
    """The list of the addresses of settles, ascending."""
    check_code(code)
    return [at for at, cell in enumerate(code[2]) if is_settle_cell(cell)]


def has_instruction(code, hue, address):
    """Whether any value is an address of the code where an instruction of the hue stands."""
    return is_within(address, 0, len(code[2]) - 1) and code[2][address][0] == hue


def is_place(code, hue, place):
    """Whether any value is a place of the hue that can be struck."""
    if not isinstance(place, tuple) or len(place) == 0:
        return False
    if len(place) == 1:
        return place == ("pointer",) or place == ("slot",)
    if len(place) != 2:
        return False
    word, at = place
    if word == "register":
        return is_within(at, 0, REGISTERS - 1)
    if word == "cell":
        return is_within(at, 0, len(code[3]) - 1)
    return word == "code" and has_instruction(code, hue, at)


def fits_place(code, hue, place, new):
    """Whether any value may be set at a place of the hue."""
    if place[0] == "pointer":
        return is_within(new, 0, GREATEST_POINTER)
    if place[0] == "code":
        return fits_instruction(bounds_of(code), hue, new)
    return place[0] == "slot" and new is None or is_within(new, 0, code[1] - 1)


def check_strike(code, hue, place, new):
    """BadHue, BadPlace or BadNew unless this can be set at this place of the hue."""
    check_hue(code, hue)
    if not is_place(code, hue, place):
        raise BadPlace("this is no place of the hue")
    if not fits_place(code, hue, place, new):
        raise BadNew("this does not fit to the place")


def is_strike(code, value):
    """Whether any value is a strike for the code."""
    if not isinstance(value, tuple) or len(value) != 4:
        return False
    step, hue, place, new = value
    if not is_within(step, 0, MOST_STEPS) or not is_within(hue, 0, len(code[0]) - 1):
        return False
    return is_place(code, hue, place) and fits_place(code, hue, place, new)


def may_be_strikes(value):
    """Whether any value is a list with at most as many items as strikes may be."""
    return isinstance(value, (list, tuple)) and len(value) <= MOST_STRIKES


def wrong_strike(code, strikes):
    """The index of the first item that is no strike or has a lesser step than the one ahead; None if all fit."""
    last = 0
    for at, strike in enumerate(strikes):
        if not is_strike(code, strike) or strike[0] < last:
            return at
        last = strike[0]
    return None


def is_strikes(code, value):
    """Whether a value is a list of strikes for the code."""
    check_code(code)
    return may_be_strikes(value) and wrong_strike(code, value) is None


def check_strikes(code, strikes):
    """BadStrikes unless this is a list of strikes for the code."""
    if not may_be_strikes(strikes):
        raise BadStrikes(None)
    at = wrong_strike(code, strikes)
    if at is not None:
        raise BadStrikes(at)
