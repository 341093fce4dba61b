"""What a run of a program holds, and what each of its steps does.

A set of carriers is kept as a whole whose bits stand for them; the union of
two sets is then one sign.
"""

from hueward.tracks import carriers_of, tracks_of


class Running:
    """A running of a part: where it stands, its locals, the sets of those, and its grounds.

    The ground at a step is the item of grounds at the count of tests that
    are open there.
    """

    def __init__(self, part, track, ground):
        self.part = part
        self.track = track
        self.at = 0
        self.numbers = {}
        self.sets = {}
        self.grounds = [ground]


class Course:
    """Everything of a run that changes, and the tracks that it goes along.

    The operands are pairs of a value and its set, of all runnings together.
    """

    def __init__(self, program, inputs):
        self.size = program[0]
        self.carriers = carriers_of(program)
        self.tracks = tracks_of(program, self.carriers)
        self.given = list(inputs)
        self.taken = 0
        self.takes_bit = 1 << self.carriers.index(("takes",))
        self.takes_set = 0
        self.arrays = {name: list(numbers) for name, numbers in program[1]}
        self.array_sets = {array[0]: 0 for array in program[1]}
        self.operands = []
        self.runnings = [Running("main", self.tracks["main"], 0)]
        self.shown = []
        self.shown_sets = []
        self.done = 0
        self.rounds = 0
        self.ended = False


def running_copy(running):
    """An independent running at the same moment."""
    twin = Running(running.part, running.track, 0)
    twin.at = running.at
    twin.numbers = dict(running.numbers)
    twin.sets = dict(running.sets)
    twin.grounds = list(running.grounds)
    return twin


def bring_to(twin, course):
    """Brings a course to the moment of another one of the same program."""
    twin.given = list(course.given)
    twin.taken = course.taken
    twin.takes_set = course.takes_set
    twin.arrays = {name: list(course.arrays[name]) for name in course.arrays}
    twin.array_sets = dict(course.array_sets)
    twin.operands = list(course.operands)
    twin.runnings = [running_copy(running) for running in course.runnings]
    twin.shown = list(course.shown)
    twin.shown_sets = list(course.shown_sets)
    twin.done = course.done
    twin.rounds = course.rounds
    twin.ended = course.ended


def ground_at(running, step):
    """The ground of a running at a step."""
    return running.grounds[step.level]


def turned(course, total):
    """A sum, difference or product as a number; it is counted if it goes round."""
    if not 0 <= total < course.size:
        course.rounds += 1
    return total % course.size


def end_course(course, ground):
    """The run stops at a step with this ground."""
    course.shown.append(("stop",))
    course.shown_sets.append(ground)
    course.ended = True


def set_local_of(running, step, number, carriers):
    """The local of a step becomes a number, with these carriers."""
    running.numbers[step.name] = number
    running.sets[step.name] = carriers


def do_number(course, running, step):
    """Gives the number."""
    course.operands.append((step.number, 0))


def do_local(course, running, step):
    """Gives the value of the local, 0 as long as it was not set."""
    carriers = step.bit | running.sets.get(step.name, 0)
    course.operands.append((running.numbers.get(step.name, 0), carriers))


def do_cell(course, running, step):
    """Gives the value of the cell."""
    index, carriers = course.operands.pop()
    numbers = course.arrays[step.name]
    number = numbers[index % len(numbers)]
    course.operands.append((number, step.bit | course.array_sets[step.name] | carriers))


def do_sum(course, running, step):
    """Gives a sum, difference or product."""
    other, carriers = course.operands.pop()
    one, more = course.operands.pop()
    if step.word == "plus":
        total = one + other
    elif step.word == "minus":
        total = one - other
    else:
        total = one * other
    course.operands.append((turned(course, total), carriers | more))


def do_test(course, running, step):
    """Gives a remainder or the outcome of a comparison."""
    other, carriers = course.operands.pop()
    one, more = course.operands.pop()
    number = 0
    if step.word == "rest" and other != 0:
        number = one % other
    elif step.word == "less" and one < other:
        number = 1
    elif step.word == "same" and one == other:
        number = 1
    course.operands.append((number, carriers | more))


def do_run(course, running, step):
    """Begins a running of a function."""
    begun = Running(step.name, course.tracks[step.name], ground_at(running, step))
    first = len(course.operands) - len(step.params)
    for param, operand in zip(step.params, course.operands[first:]):
        begun.numbers[param], begun.sets[param] = operand
    del course.operands[first:]
    course.runnings.append(begun)


def do_let(course, running, step):
    """Sets the local."""
    number, carriers = course.operands.pop()
    set_local_of(running, step, number, carriers | ground_at(running, step))


def do_put(course, running, step):
    """Sets the cell."""
    number, carriers = course.operands.pop()
    index, more = course.operands.pop()
    numbers = course.arrays[step.name]
    numbers[index % len(numbers)] = number
    added = carriers | more | ground_at(running, step)
    course.array_sets[step.name] = course.array_sets[step.name] | added


def do_fork(course, running, step):
    """Goes on by the test of an if or while, which is open in its body."""
    number, carriers = course.operands.pop()
    if number == 0:
        running.at = step.instead
    ground = ground_at(running, step) | carriers
    running.grounds = running.grounds[:step.level + 1] + [ground]


def do_show(course, running, step):
    """Shows the value at the port."""
    number, carriers = course.operands.pop()
    course.shown.append(("show", step.port, number))
    course.shown_sets.append(carriers | ground_at(running, step))


def next_input(course):
    """The next input as a number; 0 behind the last one."""
    if course.taken == len(course.given):
        return 0
    whole = course.given[course.taken]
    course.taken += 1
    return turned(course, whole)


def do_take(course, running, step):
    """Sets the local to the next input."""
    number = next_input(course)
    course.takes_set = course.takes_set | ground_at(running, step)
    carriers = course.takes_set | course.takes_bit
    set_local_of(running, step, number, carriers)
    course.shown.append(("take", number))
    course.shown_sets.append(carriers)


def do_give(course, running, step):
    """Ends the running and gives the value."""
    number, carriers = course.operands.pop()
    course.runnings.pop()
    course.operands.append((number, carriers | ground_at(running, step)))


def do_stop(course, running, step):
    """The run stops."""
    end_course(course, ground_at(running, step))


def do_mark(course, running, step):
    """Does nothing."""


def do_end(course, running, step):
    """The end of a part: gives 0 in a function, stops in main."""
    ground = ground_at(running, step)
    if len(course.runnings) == 1:
        end_course(course, ground)
    else:
        course.runnings.pop()
        course.operands.append((0, ground))


ACTIONS = {
    "number": do_number,
    "local": do_local,
    "cell": do_cell,
    "plus": do_sum,
    "minus": do_sum,
    "times": do_sum,
    "rest": do_test,
    "less": do_test,
    "same": do_test,
    "run": do_run,
    "let": do_let,
    "put": do_put,
    "if": do_fork,
    "while": do_fork,
    "show": do_show,
    "take": do_take,
    "give": do_give,
    "stop": do_stop,
    "mark": do_mark,
    "end": do_end,
}


def do_step(course):
    """Does the next step of a course that has not ended."""
    running = course.runnings[-1]
    step = running.track[running.at]
    running.at = step.behind
    course.done += 1
    action = ACTIONS[step.word]
    action(course, running, step)


def place_of(course):
    """The place of the node or end whose step is the next one; None behind the end."""
    if course.ended:
        return None
    running = course.runnings[-1]
    return (running.part, running.track[running.at].at)


def carriers_in(course, whole):
    """The ascending tuple of the carriers in the set that is kept as this whole."""
    return tuple([carrier for at, carrier in enumerate(course.carriers) if (whole >> at) & 1 == 1])
