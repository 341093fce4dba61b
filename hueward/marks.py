"""Machines that hold their items back until a mark, and go back in place of being caught."""

from hueward.cells import REGISTERS
from hueward.checks import GREATEST_INPUT, MOST_INPUTS, MOST_STEPS, check_inputs, check_steps, is_within
from hueward.codes import GREATEST_POINTER, MOST_STRIKES, check_code, check_strike, check_strikes
from hueward.errors import BadCheckpoint, BadMany
from hueward.machine import machine_at
from hueward.works import Works, do_coming, do_step, do_strike, empty_slots, fetched, left_of, point_all, twin_of


def point_of(works):
    """The checkpoint of works whose hues are all alike."""
    return (works.heads[0], tuple(works.numbers[0]), tuple(works.banks[0]), tuple(left_of(works)))


def put_at(works, point):
    """All hues become as a checkpoint of their own inputs tells."""
    address, numbers, bank, left = point
    works.numbers = [list(numbers) for _ in works.votes]
    works.banks = [list(bank) for _ in works.votes]
    works.taken = len(works.given) - len(left)
    works.tape = works.first_tape
    works.word = "running"
    point_all(works, address)
    empty_slots(works)


class Kept:
    """A machine with a code, inputs and strikes to come, which keeps checkpoints and goes back to them.

    Its works count all steps, also those that were undone, and show what was
    given out and is held, one behind another.
    """

    def __init__(self, code, inputs, strikes=()):
        check_code(code)
        check_inputs(inputs)
        check_strikes(code, strikes)
        self._code = code
        self._works = Works(code, inputs, strikes)
        self._point = point_of(self._works)
        self._out_many = 0
        self._undone = 0
        self._ended = []
        self._leg_first = 0
        self._leg_hues = {}

    @property
    def out(self):
        """The list of the items that were given out."""
        return self._works.shown[:self._out_many]

    @property
    def held(self):
        """The list of the items that are held."""
        return self._works.shown[self._out_many:]

    @property
    def state(self):
        """Running or stopped, as a word."""
        return self._works.word

    @property
    def steps(self):
        """How many steps were done."""
        return self._works.done

    @property
    def left(self):
        """The list of the inputs that were not taken."""
        return left_of(self._works)

    @property
    def kept(self):
        """The checkpoint that is kept."""
        return self._point

    @property
    def legs(self):
        """The list of the legs that have ended: how many steps, the struck hues, and how each ended."""
        return list(self._ended)

    def go(self, steps):
        """Does so many steps more, fewer if it stops."""
        check_steps(steps)
        for _ in range(steps):
            if self._works.word != "running":
                break
            self._do_step()

    def strike(self, hue, place, new):
        """Sets one thing of a hue at once, unless it has stopped; this is no step."""
        check_strike(self._code, hue, place, new)
        if self._works.word == "running":
            do_strike(self._works, hue, place, new)
            self._leg_hues[hue] = True

    def copy(self):
        """An independent one at the same moment, with the strikes that are still to come."""
        twin = Kept(self._code, [])
        twin._works = twin_of(self._works)
        twin._point = self._point
        twin._out_many = self._out_many
        twin._undone = self._undone
        twin._ended = list(self._ended)
        twin._leg_first = self._leg_first
        twin._leg_hues = dict(self._leg_hues)
        return twin

    def machine(self):
        """An independent machine at the same moment, without strikes to come."""
        works = twin_of(self._works)
        works.planned = []
        works.struck_many = 0
        works.done -= self._undone
        return machine_at(self._code, works)

    def _do_step(self):
        """Does the next step, and the strikes ahead of it."""
        works = self._works
        before = works.struck_many
        do_coming(works)
        for strike in works.planned[before:works.struck_many]:
            self._leg_hues[strike[1]] = True
        at = fetched(works)
        do_step(works)
        if works.word == "caught":
            self._undone += works.done - self._leg_first
            self._end_leg("back")
            del works.shown[self._out_many:]
            put_at(works, self._point)
        elif works.word == "stopped":
            self._end_leg("stopped")
            self._out_many = len(works.shown)
        elif works.tape[at][0] == "mark":
            self._end_leg("kept")
            self._out_many = len(works.shown)
            self._point = point_of(works)

    def _end_leg(self, word):
        """The running leg has ended so, and another one begins."""
        self._ended.append((self._works.done - self._leg_first, tuple(sorted(self._leg_hues)), word))
        self._leg_first = self._works.done
        self._leg_hues = {}


def are_wholes(value, high):
    """Whether any value is a tuple of wholes from 0 to a greatest one."""
    return isinstance(value, tuple) and all([is_within(number, 0, high) for number in value])


def is_point(code, value):
    """Whether any value is a checkpoint of a code."""
    if not isinstance(value, tuple) or len(value) != 4:
        return False
    address, numbers, bank, left = value
    greatest = code[1] - 1
    if not is_within(address, 0, len(code[2])) or not are_wholes(numbers, greatest) or len(numbers) != REGISTERS:
        return False
    if not are_wholes(bank, greatest) or len(bank) != len(code[3]):
        return False
    return are_wholes(left, GREATEST_INPUT) and len(left) <= MOST_INPUTS


def is_checkpoint(code, value):
    """Whether a value is a checkpoint of the code."""
    check_code(code)
    return is_point(code, value)


def resumed(code, checkpoint):
    """A Kept that begins at a checkpoint, and keeps it."""
    check_code(code)
    if not is_point(code, checkpoint):
        raise BadCheckpoint("this is no checkpoint of the code")
    kept = Kept(code, checkpoint[3])
    put_at(kept._works, checkpoint)
    kept._point = checkpoint
    return kept


def needed_strikes(code):
    """How many hues must be struck so that too few are left to agree; 0 if that many defeat the code."""
    need = code[0][-1]
    many = len(code[0]) - need + 1
    return many if many < need else 0


def unstruck_legs(code, inputs, steps):
    """The legs of the unstruck Kept; None if it goes back, or has not stopped behind so many steps."""
    kept = Kept(code, inputs)
    kept.go(steps)
    if kept.state != "stopped" or any([leg[2] == "back" for leg in kept.legs]):
        return None
    return kept.legs


def check_strikes_many(many):
    """BadMany unless this is a count of strikes."""
    if not is_within(many, 0, MOST_STRIKES):
        raise BadMany(f"many is a whole from 0 to {MOST_STRIKES}")


def longest_of(legs):
    """The index and the count of steps of the first leg with the most steps."""
    counts = [leg[0] for leg in legs]
    return (counts.index(max(counts)), max(counts))


def again_of(code, legs, many):
    """How many steps so many strikes can bring to be done again."""
    each = needed_strikes(code)
    if each == 0:
        return 0
    return many // each * longest_of(legs)[1]


def most_again(code, inputs, many, steps):
    """How many steps so many strikes can bring to be done again; None if the unstruck Kept does not stop."""
    check_code(code)
    check_inputs(inputs)
    check_strikes_many(many)
    check_steps(steps)
    legs = unstruck_legs(code, inputs, steps)
    if legs is None:
        return None
    return again_of(code, legs, many)


def slowest(code, inputs, many, steps):
    """At most so many strikes that bring as many steps as can be to be done again; None if there are too many."""
    check_code(code)
    check_inputs(inputs)
    check_strikes_many(many)
    check_steps(steps)
    legs = unstruck_legs(code, inputs, steps)
    if legs is None or again_of(code, legs, many) + sum([leg[0] for leg in legs]) > MOST_STEPS:
        return None
    each = needed_strikes(code)
    if each == 0:
        return []
    # The longest leg goes back with its last step, where too few pointers agree, again and again.
    at, length = longest_of(legs)
    last = sum([leg[0] for leg in legs[:at]]) - 1
    found = []
    for _ in range(many // each):
        last += length
        found.extend([(last, hue, ("pointer",), GREATEST_POINTER) for hue in range(each)])
    return found
