"""The meaning of programs, in steps."""

from hueward.checks import check_inputs, check_number, check_steps, is_from, is_within
from hueward.courses import Course, bring_to, carriers_in, do_step, place_of
from hueward.errors import BadArray, BadIndex, BadLength, BadName
from hueward.programs import check_part, check_program, local_names


class Run:
    """A run of a program with inputs, which goes on step by step."""

    def __init__(self, program, inputs):
        check_program(program)
        check_inputs(inputs)
        self._program = program
        self._course = Course(program, inputs)

    @property
    def row(self):
        """The list of the items so far."""
        return list(self._course.shown)

    @property
    def steps(self):
        """How many steps were done."""
        return self._course.done

    @property
    def state(self):
        """Either running or stopped, as a word."""
        if self._course.ended:
            return "stopped"
        return "running"

    @property
    def left(self):
        """The list of the inputs that were not taken."""
        return self._course.given[self._course.taken:]

    @property
    def place(self):
        """The place of the next step; None behind the end."""
        return place_of(self._course)

    @property
    def wraps(self):
        """How many steps went round."""
        return self._course.rounds

    @property
    def sources(self):
        """The list of the items' sets of carriers, each an ascending tuple."""
        return [carriers_in(self._course, whole) for whole in self._course.shown_sets]

    def go(self, steps):
        """Does so many steps more, fewer if the run stops."""
        check_steps(steps)
        for _ in range(steps):
            if self._course.ended:
                break
            do_step(self._course)

    def reach(self, length, steps):
        """Does at most so many steps, up to a row of this length; whether it has it."""
        if not is_from(length, 0):
            raise BadLength("a length is a whole from 0 on")
        check_steps(steps)
        course = self._course
        for _ in range(steps):
            if course.ended or len(course.shown) >= length:
                break
            do_step(course)
        return len(course.shown) >= length

    def cells(self, array):
        """The list of the values of an array."""
        self._check_array(array)
        return list(self._course.arrays[array])

    def set_local(self, part, x, number):
        """Sets a local of the open running of a part, if there is one."""
        check_part(self._program, part)
        if not isinstance(x, str) or x not in local_names(self._program, part):
            raise BadName("the part has no such local")
        check_number(number, self._program[0])
        if self._course.ended:
            return
        for running in self._course.runnings:
            if running.part == part:
                running.numbers[x] = number

    def set_cell(self, array, index, number):
        """Sets a cell, also behind the end."""
        self._check_array(array)
        numbers = self._course.arrays[array]
        if not is_within(index, 0, len(numbers) - 1):
            raise BadIndex(f"an index of this array is a whole from 0 to {len(numbers) - 1}")
        check_number(number, self._program[0])
        numbers[index] = number

    def copy(self):
        """An independent run at the same moment."""
        twin = Run(self._program, [])
        bring_to(twin._course, self._course)
        return twin

    def _check_array(self, array):
        """BadArray unless this is the name of an array of the program."""
        if not isinstance(array, str) or array not in self._course.arrays:
            raise BadArray("the program has no such array")


def source_row(program, inputs, steps):
    """The row of a run behind so many steps."""
    run = Run(program, inputs)
    run.go(steps)
    return run.row
