"""What each step makes of a band of struck runs.

Each function gives the list of the bands that go on behind a step, and puts
the fates of the other runs into found, a dict from new values.
"""

from hueward.bands import WRONG, caught_end, column_of, indexes_by, is_right_item, one_more, part_of
from hueward.bands import put_column, works_as
from hueward.cells import is_settle_cell
from hueward.spots import cells_reached, each_of, slot_spots, spot_set, value_at
from hueward.words import WORDS, worths
from hueward.works import agreed_of, do_step, state_of, twin_of

# What becomes of a run at a settle; one that turns to the goal is right by another whole than one that does not.
NOT_RIGHT = -2
CAUGHT = -1
RIGHT = 0


def tell(found, news, fate):
    """Tells the fate of the runs with these new values."""
    for new in news:
        found[new] = fate


def got_column(scene, band, cell):
    """What the runs of a band get by a get; None if all get what the works do."""
    spots = cells_reached(scene.struck_code, cell)
    indexes = band.columns.get(cell[0] * each_of(scene.struck_code) + cell[3])
    if indexes is None or len(spots) == 1:
        index = band.works.numbers[cell[0]][cell[3]] % cell[5]
        return band.columns.get(spots[index])
    bank = band.works.banks[cell[0]][cell[4]:cell[4] + cell[5]]
    columns = [band.columns.get(spot) for spot in spots]
    if columns.count(None) == len(columns):
        return [bank[index % cell[5]] for index in indexes]
    found = []
    for at, index in enumerate(indexes):
        column = columns[index % cell[5]]
        found.append(bank[index % cell[5]] if column is None else column[at])
    return found


def word_column(scene, band, cell):
    """What the runs of a band get by a word; None if all get what the works do."""
    first = cell[0] * each_of(scene.struck_code)
    ones = first + cell[3]
    others = first + cell[4]
    if ones not in band.columns and others not in band.columns:
        return None
    return worths(cell[1], column_of(scene, band, ones), column_of(scene, band, others), scene.struck_code[1])


def row_column(scene, band, cell):
    """What the runs of a band get by an instruction but put; None if all get what the works do."""
    if cell[1] in WORDS:
        return word_column(scene, band, cell)
    if cell[1] == "get":
        return got_column(scene, band, cell)
    if cell[1] == "offer":
        return band.columns.get(cell[0] * each_of(scene.struck_code) + cell[2])
    return None


def put_on(scene, band, cell):
    """The bands behind a put: one, or one for each cell that is meant."""
    first = cell[0] * each_of(scene.struck_code)
    spots = cells_reached(scene.struck_code, cell)
    meant = spots[band.works.numbers[cell[0]][cell[3]] % cell[5]]
    indexes = band.columns.get(first + cell[3])
    target = meant
    if indexes is not None and len(spots) > 1:
        keys = [index % cell[5] for index in indexes]
        if keys.count(keys[0]) < len(keys):
            return [part for one in parted(scene, band, keys) for part in put_on(scene, one, cell)]
        target = spots[keys[0]]
    new = band.columns.get(first + cell[2])
    if target == meant:
        do_step(band.works)
        put_column(scene, band, meant, new)
        return [band]
    old = column_of(scene, band, meant)
    new = column_of(scene, band, first + cell[2])
    do_step(band.works)
    put_column(scene, band, meant, old)
    put_column(scene, band, target, new)
    return [band]


def parted(scene, band, keys):
    """The bands of the runs with equal keys, as far as the band is."""
    found = []
    for chosen in indexes_by(keys).values():
        part = part_of(scene, band, twin_of(band.works), chosen)
        part.on_way = band.on_way
        found.append(part)
    return found


def row_on(scene, band, cell):
    """The bands behind an instruction."""
    if cell[1] == "put":
        return put_on(scene, band, cell)
    column = row_column(scene, band, cell)
    do_step(band.works)
    put_column(scene, band, spot_set(scene.struck_code, cell), column)
    return [band]


def agreed_column(scene, band, spots, need):
    """The numbers on which each run of a band agrees at these slots, None where it does not."""
    parting = [spot for spot in spots if spot in band.columns]
    if len(parting) == 1:
        return agreed_with(scene, band, spots, parting[0], need)
    known = {}
    found = []
    columns = [column_of(scene, band, spot) for spot in spots]
    for offers in zip(*columns):
        if offers not in known:
            known[offers] = agreed_of(offers, need)
        found.append(known[offers])
    return found


def agreed_with(scene, band, spots, parting, need):
    """The numbers on which the runs agree at these slots, if they differ in a single one of them."""
    column = band.columns[parting]
    if len(spots) == 1:
        return column
    others = [value_at(scene.struck_code, band.works, spot) for spot in spots if spot != parting]
    # Of several slots more than one must be alike, so that a number of its own counts as little as None.
    none = agreed_of(others, need)
    known = {number: agreed_of(others + [number], need) for number in others}
    return [known.get(number, none) for number in column]


def settle_keys(scene, band, cell, numbers):
    """What becomes of runs that agree on these numbers at a show or turn: caught, wrong, or how they go on."""
    if cell[0] == "turn":
        return [CAUGHT if number is None else int(number != 0) for number in numbers]
    keys = []
    for number in numbers:
        if number is None:
            keys.append(CAUGHT)
        else:
            keys.append(RIGHT if is_right_item(scene, band.right, ("show", cell[1], number)) else NOT_RIGHT)
    return keys


def show_or_turn_on(scene, band, cell, found):
    """The bands behind a show or turn."""
    slots = slot_spots(scene.struck_code, len(scene.struck_code[0]))
    spots = slots[:cell[2]]
    need = scene.struck_code[0][cell[2] - 1]
    numbers = [agreed_of(band.works.offers[:cell[2]], need)]
    own = settle_keys(scene, band, cell, numbers)[0]
    if any([spot in band.columns for spot in spots]):
        keys = settle_keys(scene, band, cell, agreed_column(scene, band, spots, need))
    else:
        keys = None
    columns = {spot: column for spot, column in band.columns.items() if spot not in slots}
    going = bands_behind(scene, band, keys, own, columns, found)
    if cell[0] == "show":
        for part in going:
            part.right = one_more(scene, part.right)
    return going


def bands_behind(scene, band, keys, own, columns, found):
    """The bands behind a settle at which these keys tell what becomes of the runs, and own of the works.

    Without keys all runs go as the works do. The columns are those that the
    band would have behind the settle.
    """
    groups = {own: list(range(len(band.news)))} if keys is None else indexes_by(keys)
    stepped = {}
    for key, chosen in groups.items():
        if key != own and key != CAUGHT and key != NOT_RIGHT:
            stepped[key] = works_as(scene, band, chosen[0])
            do_step(stepped[key])
    do_step(band.works)
    stepped[own] = band.works
    band.columns = columns
    band.is_fresh = True
    going = []
    for key, chosen in groups.items():
        if key == CAUGHT:
            tell(found, [band.news[at] for at in chosen], caught_end(scene, band.right, band.works.done))
        elif key == NOT_RIGHT:
            tell(found, [band.news[at] for at in chosen], WRONG)
        else:
            works = stepped[key]
            works.shown = []
            part = band
            if len(groups) > 1 or key != own:
                part = part_of(scene, band, works, chosen)
                part.on_way = band.on_way and key == own
            going.append(part)
    return going


def without(state, ats):
    """A state as a list, without what stands at some places in it."""
    both = state[0] + state[1]
    return [value for at, value in enumerate(both) if at not in ats]


def mark_on(scene, band, found):
    """The bands behind a mark."""
    code = scene.struck_code
    each = each_of(code)
    hues = range(len(code[0]))
    slots = slot_spots(code, len(code[0]))
    ats = sorted(set([spot % each for spot in band.columns if spot not in slots]))
    rests = [without(state_of(band.works, hue), ats) for hue in hues]
    # Hues that are alike but for the columns have one kind.
    kinds = [rests.index(rest) for rest in rests]
    rows = []
    for hue in hues:
        hue_columns = [column_of(scene, band, hue * each + at) for at in ats]
        rows.append(list(zip(*hue_columns)))
    agreed = []
    for at in range(len(band.news)):
        agreed.append(agreed_of([(kinds[hue], rows[hue][at] if ats else ()) for hue in hues], code[0][-1]))
    own = agreed_of([(kinds[hue], state_of(band.works, hue)) for hue in hues], code[0][-1])
    columns = {}
    for k, at in enumerate(ats):
        column = [None if told is None else told[1][k] for told in agreed]
        columns.update({hue * each + at: column for hue in hues})
    keys = [CAUGHT if told is None else told[0] for told in agreed]
    going = bands_behind(scene, band, keys, CAUGHT if own is None else own[0], columns, found)
    for part in going:
        for spot, column in list(part.columns.items()):
            put_column(scene, part, spot, column)
    return going


def mark_alone_on(scene, band):
    """The bands behind a mark of a single hue, which changes nothing but the slot."""
    do_step(band.works)
    put_column(scene, band, slot_spots(scene.struck_code, 1)[0], None)
    return [band]


def take_on(scene, band, cell, found):
    """The bands behind a take."""
    works = band.works
    do_step(works)
    if not is_right_item(scene, band.right, works.shown[0]):
        tell(found, band.news, WRONG)
        return []
    works.shown = []
    band.right = one_more(scene, band.right)
    for hue in range(cell[2]):
        put_column(scene, band, hue * each_of(scene.struck_code) + cell[1], None)
    return [band]


def settle_on(scene, band, cell, found):
    """The bands behind a settle."""
    word = cell[0]
    if word == "show" or word == "turn":
        return show_or_turn_on(scene, band, cell, found)
    if word == "take":
        return take_on(scene, band, cell, found)
    if word == "mark":
        if len(scene.struck_code[0]) == 1:
            return mark_alone_on(scene, band)
        return mark_on(scene, band, found)
    # It is a goto: ahead of a stop nothing is needed any more, so that no band with columns comes there.
    do_step(band.works)
    return [band]


def step_on(scene, band, found):
    """The bands behind the next step of a band with columns."""
    # Behind the last cell nothing is needed any more, so that a band that stands there has no columns.
    cell = scene.struck_code[2][band.works.heads[0]]
    if is_settle_cell(cell):
        return settle_on(scene, band, cell, found)
    return row_on(scene, band, cell)
