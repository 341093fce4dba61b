"""Schedules: how the instructions of the hues stand between one another."""

from hueward.blocks import blocks_of, labels_in
from hueward.cells import is_settle_cell
from hueward.checks import check_inputs, check_steps, is_within
from hueward.codes import check_code, check_strikes, is_code
from hueward.errors import BadAddress, BadRank, NotSchedule, OffLabels
from hueward.hueorders import arrangements, order_at, order_rank, parted_pairs, ways_to
from hueward.tours import Tour, toured


def labels_of(code):
    """The ascending list of 0, the goals and the addresses right behind settles."""
    check_code(code)
    return labels_in(code[2])


def stretches_in(inside):
    """The list of the stretches of cells: pairs of the first address and the one behind the last."""
    found = []
    for block in blocks_of(inside):
        end = block[-1] if is_settle_cell(inside[block[-1]]) else block[-1] + 1
        if block[0] < end:
            found.append((block[0], end))
    return found


def stretches(code):
    """The ascending list of the stretches of the code."""
    check_code(code)
    return stretches_in(code[2])


def hues_at(inside, stretch):
    """The list of the hues of the instructions of a stretch."""
    return [cell[0] for cell in inside[stretch[0]:stretch[1]]]


def exchangeable_in(inside):
    """The ascending list of the addresses of instructions that can be exchanged with those behind them."""
    found = []
    for first, end in stretches_in(inside):
        found.extend([at for at in range(first, end - 1) if inside[at][0] != inside[at + 1][0]])
    return found


def exchangeable(code):
    """The ascending list of the addresses of instructions that can be exchanged with those behind them."""
    check_code(code)
    return exchangeable_in(code[2])


def with_inside(code, inside):
    """The code with other cells."""
    return (code[0], code[1], tuple(inside), code[3])


def exchanged(code, address):
    """The code in which the instruction at an address and the one behind it are exchanged."""
    check_code(code)
    inside = code[2]
    if not is_within(address, 0, len(inside) - 1) or address not in exchangeable_in(inside):
        raise BadAddress("this instruction and the one behind it cannot be exchanged")
    return with_inside(code, inside[:address] + (inside[address + 1], inside[address]) + inside[address + 2:])


def with_hues(inside, orders):
    """Cells with the hues of each stretch in an order, and the instructions of each hue in their sequence."""
    found = list(inside)
    for (first, end), order in zip(stretches_in(inside), orders):
        waiting = [[cell for cell in inside[first:end] if cell[0] == hue] for hue in range(max(order) + 1)]
        done = [0] * len(waiting)
        for at, hue in enumerate(order):
            found[first + at] = waiting[hue][done[hue]]
            done[hue] += 1
    return found


def orders_in(inside):
    """The list of the orders of the hues in the stretches of cells."""
    return [hues_at(inside, stretch) for stretch in stretches_in(inside)]


def ordered(code):
    """The code in which each stretch has its instructions hue by hue."""
    inside = code[2]
    return with_inside(code, with_hues(inside, [sorted(order) for order in orders_in(inside)]))


def in_order(code):
    """The code in which each stretch has its instructions hue by hue, ascending."""
    check_code(code)
    return ordered(code)


def is_schedule_of(code, value):
    """Whether any value is a schedule of a code."""
    return is_code(value) and ordered(value) == ordered(code)


def is_schedule(code, value):
    """Whether any value is a schedule of the code."""
    check_code(code)
    return is_schedule_of(code, value)


def check_schedule(code, other):
    """NotSchedule unless this is a schedule of the code."""
    if not is_schedule_of(code, other):
        raise NotSchedule("this is no schedule of the code")


def many_of(code):
    """How many schedules a code has."""
    many = 1
    for order in orders_in(code[2]):
        many = many * arrangements(order)
    return many


def schedules_many(code):
    """How many schedules the code has, itself among them."""
    check_code(code)
    return many_of(code)


def schedule_rank(code):
    """How many schedules stand ahead of the code."""
    check_code(code)
    rank = 0
    for order in orders_in(code[2]):
        rank = rank * arrangements(order) + order_rank(order)
    return rank


def schedule_at(code, rank):
    """The schedule that has so many ahead of it."""
    check_code(code)
    if not is_within(rank, 0, many_of(code) - 1):
        raise BadRank("the code has no schedule of this rank")
    found = []
    for order in reversed(orders_in(code[2])):
        many = arrangements(order)
        found.append(order_at(order, rank % many))
        rank = rank // many
    return with_inside(code, with_hues(code[2], found[::-1]))


def moved_in(inside, other):
    """The list of the addresses at which what stands in cells stands in those of a schedule."""
    found = list(range(len(inside)))
    for stretch in stretches_in(inside):
        first, end = stretch
        for hue in sorted(set(hues_at(inside, stretch))):
            ones = [at for at in range(first, end) if inside[at][0] == hue]
            others = [at for at in range(first, end) if other[at][0] == hue]
            for one, moved in zip(ones, others):
                found[one] = moved
    return found


def moved_address(code, other, address):
    """The address at which the instruction of an address stands in another schedule."""
    check_code(code)
    check_schedule(code, other)
    if not is_within(address, 0, len(code[2]) - 1):
        raise BadAddress("this is no address of the code")
    return moved_in(code[2], other[2])[address]


def moved_number(tour, step, hue, other):
    """The number that a strike of a hue ahead of a step gets, with these cells of another schedule."""
    inside = tour.inside
    at = tour.ways[step]
    if at is None or is_settle_cell(inside[at]):
        return step
    first, end = tour.ends[at]
    done = len([cell for cell in inside[first:at] if cell[0] == hue])
    own = [place for place in range(first, end) if other[place][0] == hue]
    moved = own[done] if done < len(own) else end
    return min(step - at + moved, len(tour.ways) - 1)


def moved_strikes(code, inputs, strikes, other, steps):
    """The strikes that do to another schedule what these do to the code."""
    check_code(code)
    check_inputs(inputs)
    check_strikes(code, strikes)
    check_schedule(code, other)
    check_steps(steps)
    tour = Tour(code[2], stretches_in(code[2]))
    step = toured(tour, code, inputs, strikes, steps)
    if step is not None:
        raise OffLabels(step)
    moved = moved_in(code[2], other[2])
    found = []
    for number, hue, place, new in strikes:
        if number < len(tour.ways):
            if place[0] != "pointer":
                number = moved_number(tour, number, hue, other[2])
            if place[0] == "code":
                place = ("code", moved[place[1]])
            found.append((number, hue, place, new))
    # What is sorted by one item alone keeps its sequence where this one is alike.
    return sorted(found, key=lambda strike: strike[0])


def pairs_of_orders(code, other):
    """The list of the pairs of the orders of the hues in the stretches of a code and of another schedule."""
    return list(zip(orders_in(code[2]), orders_in(other[2])))


def nearest_exchanges(code, other):
    """The fewest exchanges, one behind another, that make another schedule of the code."""
    check_code(code)
    check_schedule(code, other)
    return sum([parted_pairs(one, another) for one, another in pairs_of_orders(code, other)])


def exchanges_to(code, other):
    """The addresses with which exchanged, one behind another, makes another schedule of the code."""
    check_code(code)
    check_schedule(code, other)
    found = []
    for stretch, pair in zip(stretches_in(code[2]), pairs_of_orders(code, other)):
        found.extend([stretch[0] + at for at in ways_to(pair[0], pair[1])])
    return found
