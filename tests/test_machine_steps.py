"""What each step of a machine does: [27]."""

import unittest

from hueward.machine import Machine
from tests.coding import ALL_VOTES, coded

BEYOND = 9999


def begun(*cells, registers=(), inputs=(), **more):
    """A machine with these cells, whose hues have these registers: tuples, or one number for the register 0."""
    machine = Machine(coded(*cells, **more), list(inputs))
    for hue, numbers in enumerate(registers):
        for at, number in enumerate(numbers if isinstance(numbers, tuple) else (numbers,)):
            machine.strike(hue, ("register", at), number)
    return machine


def with_slots(machine, *slots):
    """The machine with these slots."""
    for hue, slot in enumerate(slots):
        machine.strike(hue, ("slot",), slot)
    return machine


def stepped(machine):
    """The machine behind one step more."""
    machine.go(1)
    return machine


class Fetches(unittest.TestCase):

    def test_all_pointers_become_the_next_address(self):
        machine = begun((0, "set", 0, 1), ("mark",), votes=(1, 2, 2))
        machine.strike(1, ("pointer",), BEYOND)
        self.assertEqual(stepped(machine).pointers, (1, 1, 1))
        self.assertEqual(machine.state, "running")

    def test_the_cell_on_which_enough_agree_is_done(self):
        machine = begun((0, "set", 0, 1), (0, "set", 0, 2), (0, "set", 0, 3), votes=(1, 2, 2))
        machine.strike(1, ("pointer",), 2)
        machine.strike(2, ("pointer",), 2)
        self.assertEqual(stepped(machine).registers(0)[0], 3)
        self.assertEqual(machine.pointers, (3, 3, 3))

    def test_too_few_agree(self):
        for votes in ALL_VOTES:
            need = votes[-1]
            for struck in range(len(votes) + 1):
                machine = begun(("goto", 0), votes=votes)
                for hue in range(struck):
                    machine.strike(hue, ("pointer",), BEYOND - hue)
                stepped(machine)
                right = "running" if len(votes) - struck >= need else "caught"
                self.assertEqual((machine.state, machine.steps), (right, 1))

    def test_a_caught_one_changes_nothing_else(self):
        machine = begun((0, "set", 0, 5), ("stop",), registers=(1, 2), inputs=[3])
        machine.strike(1, ("pointer",), 1)
        before = machine.moment()
        stepped(machine)
        self.assertEqual(machine.moment(), (before[0], ("caught", (3,))))
        self.assertEqual((machine.steps, machine.row), (1, []))

    def test_beyond_the_code(self):
        for pointer in (2, 3, BEYOND):
            machine = begun(("goto", 0), ("stop",))
            for hue in (0, 1):
                machine.strike(hue, ("pointer",), pointer)
            self.assertEqual(stepped(machine).state, "caught")
            self.assertEqual((machine.pointers, machine.steps), ((pointer, pointer), 1))
        machine = begun((0, "set", 0, 5))
        machine.go(9)
        self.assertEqual((machine.state, machine.steps, machine.pointers), ("caught", 2, (1, 1)))


class Instructions(unittest.TestCase):

    def test_words(self):
        cases = (
            ("plus", 3, 4, 7), ("plus", 6, 4, 0), ("plus", 9, 9, 8), ("minus", 4, 3, 1), ("minus", 3, 4, 9),
            ("minus", 0, 9, 1), ("times", 3, 4, 2), ("times", 3, 0, 0), ("rest", 7, 3, 1), ("rest", 3, 7, 3),
            ("rest", 7, 0, 0), ("rest", 0, 7, 0), ("less", 3, 4, 1), ("less", 4, 3, 0), ("less", 4, 4, 0),
            ("same", 4, 4, 1), ("same", 3, 4, 0), ("same", 4, 3, 0),
        )
        for word, one, other, value in cases:
            machine = stepped(begun((1, word, 4, 1, 2), registers=((), (0, one, other))))
            self.assertEqual(machine.registers(1), (0, one, other, 0, value, 0, 0, 0), word)
            self.assertEqual(machine.registers(0), (0,) * 8)

    def test_a_register_may_be_all_three(self):
        machine = stepped(begun((0, "plus", 3, 3, 3), registers=((0, 0, 0, 4),)))
        self.assertEqual(machine.registers(0)[3], 8)

    def test_set_and_offer(self):
        machine = begun((1, "set", 7, 9), (1, "offer", 7), (0, "offer", 7))
        machine.go(3)
        self.assertEqual((machine.registers(1)[7], machine.registers(0)[7], machine.slots), (9, 0, (0, 9)))

    def test_get_and_put(self):
        bank = (10, 11, 12, 13, 14)
        for index, found in ((0, 11), (1, 12), (2, 13), (3, 11), (19, 12), (98, 13)):
            machine = begun((0, "get", 2, 1, 1, 3), (0, "put", 3, 1, 1, 3), registers=((0, index, 0, 55),), size=100,
                            bank=bank)
            machine.go(1)
            self.assertEqual(machine.registers(0)[:4], (0, index, found, 55))
            self.assertEqual(machine.cells(0), bank)
            machine.go(1)
            cells = list(bank)
            cells[1 + index % 3] = 55
            self.assertEqual(machine.cells(0), tuple(cells))
            self.assertEqual(machine.cells(1), bank)
            self.assertEqual(machine.registers(0)[:4], (0, index, found, 55))

    def test_of_one_cell(self):
        machine = begun((0, "get", 0, 1, 2, 1), (0, "put", 1, 1, 0, 1), registers=((0, 7),), bank=(1, 2, 3))
        machine.go(2)
        self.assertEqual((machine.registers(0)[0], machine.cells(0)), (3, (7, 2, 3)))

    def test_the_own_instruction_is_done(self):
        machine = begun((0, "set", 0, 5), (1, "set", 0, 5))
        machine.strike(1, ("code", 1), (1, "set", 3, 4))
        machine.go(2)
        self.assertEqual(machine.registers(0)[:4], (5, 0, 0, 0))
        self.assertEqual(machine.registers(1)[:4], (0, 0, 0, 4))


class ShowsAndTurns(unittest.TestCase):

    def test_agreed_at_each_width(self):
        for votes in ALL_VOTES:
            for width in range(1, len(votes) + 1):
                for struck in range(width + 1):
                    slots = [8 - hue for hue in range(struck)] + [9] * (width - struck)
                    slots = slots + [4] * (len(votes) - width)
                    machine = with_slots(begun(("show", 2, width), votes=votes), *slots)
                    stepped(machine)
                    if width - struck >= votes[width - 1]:
                        self.assertEqual((machine.row, machine.state), ([("show", 2, 9)], "running"))
                        self.assertEqual(machine.slots, (None,) * len(votes))
                    elif struck <= 1 and width == 1:
                        self.assertEqual(machine.row, [("show", 2, 8)])
                    else:
                        self.assertEqual((machine.row, machine.state), ([], "caught"))
                        self.assertEqual(machine.slots, tuple(slots))

    def test_empty_slots_are_no_numbers(self):
        for slots in ((None, None, None), (None, None, 4), (None, 4, None)):
            machine = stepped(with_slots(begun(("show", 0, 3), votes=(1, 2, 2)), *slots))
            self.assertEqual((machine.state, machine.slots), ("caught", slots))
        machine = stepped(with_slots(begun(("show", 0, 3), votes=(1, 2, 2)), None, 4, 4))
        self.assertEqual(machine.row, [("show", 0, 4)])

    def test_hues_from_the_width_on_are_not_looked_at(self):
        for slots, state in (((1, 1, 2), "running"), ((1, 2, 2), "caught"), ((None, 2, 2), "caught")):
            machine = stepped(with_slots(begun(("show", 0, 2), votes=(1, 2, 2)), *slots))
            self.assertEqual(machine.state, state)

    def test_turns(self):
        for number, pointer in ((0, 1), (1, 2), (9, 2)):
            machine = stepped(with_slots(begun(("turn", 2, 2), ("mark",), ("stop",)), number, number))
            self.assertEqual((machine.pointers, machine.slots), ((pointer,) * 2, (None, None)))
            self.assertEqual((machine.row, machine.state), ([], "running"))

    def test_turns_bring_all_hues(self):
        machine = with_slots(begun(("turn", 2, 1), ("mark",), ("stop",), votes=(1, 2, 2)), 1, 0, 0)
        machine.strike(2, ("pointer",), 7)
        self.assertEqual(stepped(machine).pointers, (2, 2, 2))

    def test_a_caught_one_changes_nothing_else(self):
        for cell in (("show", 0, 2), ("turn", 0, 2)):
            machine = with_slots(begun(("mark",), cell, inputs=[4, 5]), 1, 2)
            for hue in (0, 1):
                machine.strike(hue, ("pointer",), 1)
            before = machine.moment()
            stepped(machine)
            self.assertEqual(machine.moment(), (before[0], ("caught", (4, 5))))
            self.assertEqual((machine.steps, machine.row), (1, []))

    def test_unlike_pointers_stay_where_it_is_caught(self):
        machine = with_slots(begun(("show", 0, 3), votes=(1, 2, 2)), 1, 2, 3)
        machine.strike(0, ("pointer",), 5)
        self.assertEqual(stepped(machine).pointers, (5, 0, 0))


class OtherSettles(unittest.TestCase):

    def test_goto(self):
        machine = with_slots(begun(("goto", 1), ("goto", 0), votes=(1, 2, 2)), 1, 2, None)
        machine.strike(1, ("pointer",), 7)
        stepped(machine)
        self.assertEqual((machine.pointers, machine.slots, machine.row), ((1, 1, 1), (1, 2, None), []))
        self.assertEqual(stepped(machine).pointers, (0, 0, 0))

    def test_stop(self):
        machine = with_slots(begun(("stop",), ("mark",), inputs=[6], registers=(1, 2)), 1, 2)
        stepped(machine)
        self.assertEqual((machine.row, machine.state, machine.steps), ([("stop",)], "stopped", 1))
        self.assertEqual((machine.slots, machine.left, machine.pointers), ((1, 2), [6], (1, 1)))
        self.assertEqual((machine.registers(0)[0], machine.registers(1)[0]), (1, 2))

    def test_take(self):
        for width in (1, 2, 3):
            machine = with_slots(begun(("take", 5, width), inputs=[37, 4], votes=(1, 2, 2)), 1, 2, None)
            stepped(machine)
            self.assertEqual([machine.registers(hue)[5] for hue in range(3)], [7] * width + [0] * (3 - width))
            self.assertEqual([machine.registers(hue)[4] for hue in range(3)], [0, 0, 0])
            self.assertEqual((machine.row, machine.left), ([("take", 7)], [4]))
            self.assertEqual((machine.slots, machine.pointers), ((1, 2, None), (1, 1, 1)))

    def test_take_behind_the_last_input(self):
        machine = begun(("take", 0, 2), ("goto", 0), inputs=[5], registers=(3, 4))
        machine.go(3)
        self.assertEqual((machine.row, machine.left), ([("take", 5), ("take", 0)], []))
        self.assertEqual((machine.registers(0)[0], machine.registers(1)[0]), (0, 0))
        machine = stepped(begun(("take", 0, 2), inputs=[9999], size=10000))
        self.assertEqual(machine.row, [("take", 9999)])

    def test_mark_of_states_that_agree(self):
        code = [(2, "set", 0, 1), ("mark",), (2, "set", 0, 3)]
        machine = with_slots(begun(*code, registers=(4, 4, 5), votes=(1, 2, 2), bank=(6, 7)), 1, None, 3)
        machine.strike(2, ("cell", 1), 0)
        machine.strike(2, ("code", 2), (2, "offer", 0))
        machine.go(1)
        self.assertEqual((machine.registers(2)[0], machine.own(2, 2)), (1, (2, "offer", 0)))
        machine.go(1)
        for hue in range(3):
            self.assertEqual(machine.registers(hue), (4,) + (0,) * 7)
            self.assertEqual(machine.cells(hue), (6, 7))
        self.assertEqual((machine.slots, machine.pointers), ((None,) * 3, (2, 2, 2)))
        self.assertEqual((machine.own(2, 0), machine.own(2, 2)), ((2, "set", 0, 1), (2, "set", 0, 3)))
        self.assertEqual(machine.row, [])
        machine.go(1)
        self.assertEqual([machine.registers(hue)[0] for hue in range(3)], [4, 4, 3])

    def test_mark_by_votes(self):
        for votes in ALL_VOTES:
            for struck in range(len(votes) + 1):
                machine = begun(("mark",), registers=tuple(range(9, 9 - struck, -1)), votes=votes)
                stepped(machine)
                right = len(votes) - struck >= votes[-1] or len(votes) == 1
                self.assertEqual(machine.state, "running" if right else "caught")

    def test_mark_looks_at_all_registers_and_cells(self):
        for place in [("register", at) for at in range(8)] + [("cell", 0), ("cell", 2)]:
            machine = begun(("mark",), bank=(1, 2, 3))
            machine.strike(1, place, 9)
            before = machine.moment()
            stepped(machine)
            self.assertEqual(machine.moment(), (before[0], ("caught", ())))
            self.assertEqual((machine.steps, machine.row), (1, []))

    def test_mark_looks_at_nothing_else(self):
        machine = with_slots(begun(("mark",), (0, "offer", 0), votes=(1, 2, 2)), 1, 2, None)
        machine.strike(0, ("code", 1), (0, "set", 0, 0))
        machine.strike(2, ("pointer",), 4)
        self.assertEqual(stepped(machine).state, "running")

    def test_states_that_agree_are_no_longer_the_same_thing(self):
        machine = begun(("mark",), (0, "set", 0, 1), (1, "put", 0, 0, 0, 1), bank=(5,), registers=(2, 2))
        machine.go(3)
        self.assertEqual((machine.registers(0)[0], machine.registers(1)[0]), (1, 2))
        self.assertEqual((machine.cells(0), machine.cells(1)), ((5,), (2,)))


if __name__ == "__main__":
    unittest.main()
