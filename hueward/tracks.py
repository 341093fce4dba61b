"""The steps of the parts of a program, laid out one behind another.

The track of a part is a list of its steps. Each one tells the index of the
step behind it, so that a run goes along the track without looking at bodies.
"""

from hueward.programs import body_of, local_names, names_of_parts, params_of
from hueward.trees import inner_nodes


class Step:
    """One step of a track: its word, the index of its node, how many tests are open there.

    A name, port or number is that of its node; params are those of the
    function that it runs. The bit stands for the carrier that it reads or
    changes. It goes on with the step at the index behind; a test that is 0
    with the one at instead.
    """

    def __init__(self, word, at, level):
        self.word = word
        self.at = at
        self.level = level
        self.name = None
        self.port = 0
        self.number = 0
        self.params = ()
        self.bit = 0
        self.behind = 0
        self.instead = 0


class Layout:
    """The track of a part while it is laid out, and the bits of the program's carriers."""

    def __init__(self, program, part, bits):
        self.program = program
        self.part = part
        self.bits = bits
        self.track = []

    def add_step(self, word, at, level):
        """Adds a step, which goes on with the one that is added next, and returns it."""
        step = Step(word, at, level)
        self.track.append(step)
        step.behind = len(self.track)
        return step

    def ahead(self):
        """The index of the step that is added next."""
        return len(self.track)


def carriers_of(program):
    """The ascending list of the carriers of a program."""
    found = [("takes",)] + [("array", array[0]) for array in program[1]]
    for part in names_of_parts(program):
        found.extend([("local", part, x) for x in local_names(program, part)])
    return sorted(found)


def tracks_of(program, carriers):
    """A dict from the parts of a program to their tracks; bits stand for carriers by their indexes."""
    bits = {}
    for at, carrier in enumerate(carriers):
        bits[carrier] = 1 << at
    found = {}
    for part in names_of_parts(program):
        layout = Layout(program, part, bits)
        body = body_of(program, part)
        behind = lay_body(layout, body, 0, 0)
        layout.add_step("end", behind, 0)
        link(layout.track)
        found[part] = layout.track
    return found


def lay_body(layout, body, at, level):
    """Lays out nodes, the first of which has the index at; returns the index behind them."""
    behind = at
    for node in body:
        behind = lay_node(layout, node, behind, level)
    return behind


def lay_node(layout, node, at, level):
    """Lays out the node with the index at; returns the index behind it and what stands in it."""
    if node[0] == "if":
        return lay_if(layout, node, at, level)
    if node[0] == "while":
        return lay_while(layout, node, at, level)
    behind = lay_body(layout, inner_nodes(node), at + 1, level)
    fill_step(layout, layout.add_step(node[0], at, level), node)
    return behind


def fill_step(layout, step, node):
    """Puts into the step of a node what the node tells."""
    word = step.word
    if word == "let" or word == "take" or word == "local":
        step.name = node[1]
        step.bit = layout.bits[("local", layout.part, node[1])]
    elif word == "put" or word == "cell":
        step.name = node[1]
        step.bit = layout.bits[("array", node[1])]
    elif word == "run":
        step.name = node[1]
        step.params = params_of(layout.program, node[1])
    elif word == "show":
        step.port = node[1]
    elif word == "number":
        step.number = node[1]


def lay_if(layout, node, at, level):
    """Lays out an if; returns the index behind it."""
    first = lay_node(layout, node[1], at + 1, level)
    step = layout.add_step("if", at, level)
    second = lay_body(layout, node[2], first, level + 1)
    jump = layout.add_step("jump", at, level)
    step.instead = layout.ahead()
    behind = lay_body(layout, node[3], second, level + 1)
    jump.behind = layout.ahead()
    return behind


def lay_while(layout, node, at, level):
    """Lays out a while; returns the index behind it."""
    begin = layout.ahead()
    inside = lay_node(layout, node[1], at + 1, level)
    step = layout.add_step("while", at, level)
    behind = lay_body(layout, node[2], inside, level + 1)
    jump = layout.add_step("jump", at, level)
    jump.behind = begin
    step.instead = layout.ahead()
    return behind


def link(track):
    """Lets all steps go on with steps that are no jumps, since a jump is no step of a run."""
    for step in track:
        step.behind = landing(track, step.behind)
        step.instead = landing(track, step.instead)


def landing(track, at):
    """The index of the first step from an index on that is no jump."""
    # A jump leads forward, or back to the steps of a test, so this ends.
    found = at
    while found < len(track) and track[found].word == "jump":
        found = track[found].behind
    return found
