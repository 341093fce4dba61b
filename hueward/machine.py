"""The machine of several hues, which is struck while it runs."""

from hueward.cells import is_settle_cell
from hueward.checks import check_inputs, check_steps, is_within
from hueward.codes import check_code, check_hue, check_strike, check_strikes, has_instruction
from hueward.errors import BadAddress, BadOrder
from hueward.works import Works, do_step, do_strike, fetched, go_on, left_of, moment_of, state_of, twin_of


class Machine:
    """A machine with a code, inputs and strikes to come, which goes on step by step.

    Its address is the one on which enough pointers agree, None if there is
    none or it is not running.
    """

    def __init__(self, code, inputs, strikes=()):
        check_code(code)
        check_inputs(inputs)
        check_strikes(code, strikes)
        self._code = code
        self._works = Works(code, inputs, strikes)
        self.address = 0

    @property
    def row(self):
        """The list of the items so far."""
        return list(self._works.shown)

    @property
    def steps(self):
        """How many steps were done."""
        return self._works.done

    @property
    def state(self):
        """Running, stopped or caught, as a word."""
        return self._works.word

    @property
    def left(self):
        """The list of the inputs that were not taken."""
        return left_of(self._works)

    @property
    def pointers(self):
        """The tuple of the hues' pointers."""
        return tuple(self._works.heads)

    @property
    def slots(self):
        """The tuple of the hues' slots, None where one is empty."""
        return tuple(self._works.offers)

    def registers(self, hue):
        """The tuple of the registers of a hue."""
        check_hue(self._code, hue)
        return tuple(self._works.numbers[hue])

    def cells(self, hue):
        """The tuple of the bank cells of a hue."""
        check_hue(self._code, hue)
        return tuple(self._works.banks[hue])

    def own(self, hue, address):
        """The instruction that the hue has now at an address where one of it stands in the code."""
        check_hue(self._code, hue)
        if not has_instruction(self._code, hue, address):
            raise BadAddress("no instruction of this hue stands there")
        return self._works.tape[address]

    def go(self, steps):
        """Does so many steps more, fewer if it is not running any more."""
        check_steps(steps)
        go_on(self._works, steps)
        self._look()

    def strike(self, hue, place, new):
        """Sets one thing of a hue at once; this is no step."""
        check_strike(self._code, hue, place, new)
        do_strike(self._works, hue, place, new)
        self._look()

    def copy(self):
        """An independent machine at the same moment, with the strikes that are still to come."""
        return machine_at(self._code, twin_of(self._works))

    def moment(self):
        """All of the hues, and the state and the inputs left."""
        return moment_of(self._works)

    def _look(self):
        """Tells the address anew."""
        self.address = None
        if self._works.word == "running":
            self.address = fetched(self._works)


def machine_at(code, works):
    """A machine with this code that goes on with these works."""
    machine = Machine(code, [])
    machine._works = works
    machine._look()
    return machine


def struck(code, inputs, strikes, steps):
    """A machine with these strikes, behind so many steps."""
    machine = Machine(code, inputs, strikes)
    machine.go(steps)
    return machine


def machine_row(code, inputs, steps, strikes=()):
    """The row of a machine behind so many steps."""
    check_code(code)
    check_inputs(inputs)
    check_steps(steps)
    return struck(code, inputs, strikes, steps).row


def is_unanimous(works, at):
    """Whether works, at the next step, do no show, turn or mark in which the hues differ."""
    cell = works.tape[at]
    if cell[0] == "show" or cell[0] == "turn":
        offers = works.offers[:cell[2]]
        return offers[0] is not None and offers.count(offers[0]) == len(offers)
    if cell[0] == "mark":
        states = [state_of(works, hue) for hue in range(len(works.votes))]
        return states.count(states[0]) == len(states)
    return True


def first_parting(code, inputs, steps):
    """The number of the first step of the unstruck run that is caught or not unanimous; None if there is none."""
    check_code(code)
    check_inputs(inputs)
    check_steps(steps)
    works = Works(code, inputs, ())
    for step in range(steps):
        if works.word != "running":
            break
        at = fetched(works)
        if at is None or not is_unanimous(works, at):
            return step
        do_step(works)
    return None


def check_order(code, order):
    """BadOrder unless this is a tuple of the hues of the code in some sequence."""
    many = len(code[0])
    if not isinstance(order, tuple) or len(order) != many:
        raise BadOrder("an order is a tuple of all hues")
    if not all([is_within(hue, 0, many - 1) for hue in order]) or len(set(order)) != many:
        raise BadOrder("an order has each hue once")


def renumbered(code, order):
    """The code in which hue i has become order[i]."""
    check_code(code)
    check_order(code, order)
    votes, size, inside, bank = code
    found = []
    for cell in inside:
        if is_settle_cell(cell):
            found.append(cell)
        else:
            found.append((order[cell[0]],) + cell[1:])
    return (votes, size, tuple(found), bank)


def strikes_renumbered(code, strikes, order):
    """The list of the strikes in which hue i has become order[i]."""
    check_code(code)
    check_strikes(code, strikes)
    check_order(code, order)
    found = []
    for step, hue, place, new in strikes:
        if place[0] == "code":
            new = (order[hue],) + new[1:]
        found.append((step, order[hue], place, new))
    return found
