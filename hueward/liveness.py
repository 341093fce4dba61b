"""Which spots a machine at an address may still need, on whatever way it goes on.

A spot is let in a whole by the bit of its index.
"""

from hueward.cells import is_settle_cell
from hueward.legs import follows
from hueward.spots import cells_reached, each_of, registers_read, slot_spots, spot_set, state_spots


def bits_of(spots):
    """The whole with the bits of these spots."""
    found = 0
    for spot in spots:
        found |= 1 << spot
    return found


def spots_in(bits):
    """The ascending list of the spots whose bits a whole has."""
    return [spot for spot in range(bits.bit_length()) if bits >> spot & 1]


def row_bits(code, cell):
    """What an instruction may need, and what it surely sets."""
    first = cell[0] * each_of(code)
    need = bits_of([first + at for at in registers_read(cell)])
    if cell[1] == "get":
        need |= bits_of(cells_reached(code, cell))
    if cell[1] != "put":
        return (need, bits_of([spot_set(code, cell)]))
    # Of several cells it is not known which one a put sets.
    return (need, bits_of(cells_reached(code, cell)) if cell[5] == 1 else 0)


def settle_bits(code, cell):
    """What a settle may need, and what it surely sets."""
    word = cell[0]
    hues = len(code[0])
    slots = slot_spots(code, hues)
    if word == "show" or word == "turn":
        return (bits_of(slots[:cell[2]]), bits_of(slots))
    if word == "take":
        return (0, bits_of([hue * each_of(code) + cell[1] for hue in range(cell[2])]))
    if word == "mark":
        # A hue by itself agrees with itself, whatever it has.
        return (bits_of(state_spots(code)) if hues > 1 else 0, bits_of(slots))
    return (0, 0)


def live_spots(code):
    """For each address, and for that behind the last one, the whole of what may still be needed there."""
    inside = code[2]
    used = [settle_bits(code, cell) if is_settle_cell(cell) else row_bits(code, cell) for cell in inside]
    behind = [follows(inside, at) for at in range(len(inside))]
    found = [0] * (len(inside) + 1)
    grown = True
    while grown:
        grown = False
        for at in reversed(range(len(inside))):
            live = 0
            for other in behind[at]:
                live |= found[other]
            need, gone = used[at]
            live = need | live & ~gone
            if live != found[at]:
                found[at] = live
                grown = True
    return found
