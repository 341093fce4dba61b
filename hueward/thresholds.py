"""Thresholds: how many struck hues a row bears, and how many defeat it."""

from hueward.cells import MOST_HUES
from hueward.checks import check_inputs, check_steps, is_within
from hueward.codes import check_code, check_strikes
from hueward.errors import BadHues, BadMost, BadSlots, BadVotes, BadWish
from hueward.machine import struck
from hueward.works import Works, do_step, fetched

GREATEST_WISH = 4


def hues_in(strikes):
    """The ascending tuple of the hues of strikes."""
    return tuple(sorted(set([strike[1] for strike in strikes])))


def struck_hues(code, strikes):
    """The ascending tuple of the hues that are struck."""
    check_code(code)
    check_strikes(code, strikes)
    return hues_in(strikes)


def verdict_on(row, state, right_row, right_state):
    """The word for a struck row and state, beside the unstruck ones."""
    if row == right_row and state == right_state:
        return "same"
    if any([one != other for one, other in zip(row, right_row)]):
        return "wrong"
    if state != "running" and len(row) > len(right_row):
        return "wrong"
    if state == "caught":
        return "caught"
    return "other"


def judged(code, inputs, strikes, steps):
    """The word for the struck run, beside the unstruck one: same, wrong, caught or other."""
    one = struck(code, inputs, strikes, steps)
    other = struck(code, inputs, (), steps)
    return verdict_on(one.row, one.state, other.row, other.state)


def first_settle(works, steps, words):
    """Goes on behind the first step, of so many, that does one of these settles; its cell, None if there is none."""
    for _ in range(steps):
        if works.word != "running":
            break
        at = fetched(works)
        do_step(works)
        if works.word != "caught" and works.tape[at][0] in words:
            return works.tape[at]
    return None


def slot_strikes(step, many, new):
    """The list of strikes ahead of a step that set the slots of so many hues."""
    return [(step, hue, ("slot",), new) for hue in range(many)]


def defeat(code, inputs, steps):
    """Strikes with which the first show shows another number; None if the unstruck run does no show."""
    check_code(code)
    check_inputs(inputs)
    check_steps(steps)
    works = Works(code, inputs, ())
    cell = first_settle(works, steps, ("show",))
    if cell is None:
        return None
    shown = works.shown[-1][2]
    return slot_strikes(works.done - 1, code[0][cell[2] - 1], (shown + 1) % code[1])


def stall(code, inputs, steps):
    """Strikes with which the first show or turn is caught; None if the unstruck run does none."""
    check_code(code)
    check_inputs(inputs)
    check_steps(steps)
    works = Works(code, inputs, ())
    cell = first_settle(works, steps, ("show", "turn"))
    if cell is None:
        return None
    # Numbers alone could not part the slots of a code with few numbers; empty slots do.
    return slot_strikes(works.done - 1, cell[2] - code[0][cell[2] - 1] + 1, None)


def plan(told, whole):
    """The least hues and votes that tell so many struck hues, and keep the row whole with so many; None if too many."""
    if not is_within(told, 0, GREATEST_WISH) or not is_within(whole, 0, GREATEST_WISH):
        raise BadWish(f"wishes are wholes from 0 to {GREATEST_WISH}")
    need = max(told, whole) + 1
    if need + whole > MOST_HUES:
        return None
    return (need + whole, need)


def even_votes(hues, need):
    """The votes of so many hues that need so many of all of them, and are no stricter than that for fewer."""
    if not is_within(hues, 1, MOST_HUES):
        raise BadHues(f"hues are a whole from 1 to {MOST_HUES}")
    if not is_within(need, 1, hues) or hues >= 2 * need:
        raise BadVotes("of all hues more than half, and no more than all, can be needed")
    return tuple([max(width // 2 + 1, width - (hues - need)) for width in range(1, hues + 1)])


def is_slots(value):
    """Whether any value is a list of slots."""
    if not isinstance(value, (list, tuple)) or not 1 <= len(value) <= MOST_HUES:
        return False
    return all([slot is None or is_whole_number(slot) for slot in value])


def is_whole_number(value):
    """Whether any value is a whole, of whatever sign."""
    return isinstance(value, int) and not isinstance(value, bool)


def check_most(most):
    """BadMost unless this is a greatest count of hues."""
    if not is_within(most, 0, MOST_HUES):
        raise BadMost(f"at most is a whole from 0 to {MOST_HUES}")


def unlike_hues(values, value):
    """The list of the hues whose values are unlike one."""
    return [hue for hue, other in enumerate(values) if other != value]


def suspects(slots, most):
    """The hues in each set of at most so many without which all slots are one whole; None if there is no such set."""
    if not is_slots(slots):
        raise BadSlots("slots are a list of wholes and None")
    check_most(most)
    hues = range(len(slots))
    sets = [unlike_hues(slots, slot) for slot in slots if slot is not None] + [list(hues)]
    # Each set that is let holds one of these, so they tell what is in each.
    let = [found for found in sets if len(found) <= most]
    if not let:
        return None
    return tuple([hue for hue in hues if all([hue in found for found in let])])
