"""Another reading of [59] and [60], node by node with the way down to each, to compare flows with."""

from hueward.programs import nodes, part_names
from tests.reference import standing_in


class Spot:
    """A node with its part, its index, and the way down to it: pairs of an index, a node and how it is stood in."""

    def __init__(self, part, at, node, way):
        self.part = part
        self.at = at
        self.node = node
        self.way = way

    def hangs_on(self):
        found = {("part", self.part)}
        for at, node, role in self.way:
            if node[0] == "if" and role == "body" or node[0] == "while":
                found.add(("test", self.part, at))
        return found


def spots_of(program, part):
    """The spots of all nodes of a part, in order."""
    found = []

    def walk(node, way):
        at = len(found)
        found.append(Spot(part, at, node, way))
        for place, inner in enumerate(standing_in(node)):
            role = "body" if node[0] in ("if", "while") and place > 0 else "own"
            walk(inner, way + [(at, node, role)])

    body = program[3] if part == "main" else [function[2] for function in program[2] if function[0] == part][0]
    for statement in body:
        walk(statement, [])
    return found


def reads_of(part, node):
    """What an expression reads."""
    if node[0] == "number":
        return set()
    if node[0] == "local":
        return {("local", part, node[1])}
    if node[0] == "run":
        return {("result", node[1])}
    found = {("array", node[1])} if node[0] == "cell" else set()
    for inner in standing_in(node):
        found |= reads_of(part, inner)
    return found


def plain_things(program):
    """The things, in order."""
    params = {function[0]: function[1] for function in program[2]}
    found = [("array", name) for name, _ in program[1]]
    ports = set()
    for part in part_names(program):
        found.append(("part", part))
        own = list(params.get(part, ()))
        others = {node[1] for node in nodes(program, part) if node[0] in ("let", "take", "local")} - set(own)
        found += [("local", part, x) for x in own + sorted(others)]
        found += [("test", part, at) for at, node in enumerate(nodes(program, part)) if node[0] in ("if", "while")]
        found += [("result", part)] if part != "main" else []
        ports |= {node[1] for node in nodes(program, part) if node[0] == "show"}
    return found + [("port", port) for port in sorted(ports)] + [("takes",), ("loops",), ("end",)]


def flows_of_spot(program, spot):
    """The flows that a node makes, as a set of pairs."""
    word, part, node, hangs = spot.node[0], spot.part, spot.node, spot.hangs_on()
    if word == "let":
        return pairs(reads_of(part, node[2]) | hangs, ("local", part, node[1]))
    if word == "put":
        return pairs(reads_of(part, node[2]) | reads_of(part, node[3]) | hangs, ("array", node[1]))
    if word == "show":
        return pairs(reads_of(part, node[2]) | hangs, ("port", node[1]))
    if word == "take":
        return pairs(hangs, ("takes",)) | pairs({("takes",)}, ("local", part, node[1]))
    if word in ("if", "while"):
        test = ("test", part, spot.at)
        found = pairs(reads_of(part, node[1]) | hangs, test)
        return found | pairs({test}, ("loops",)) if word == "while" else found
    if word == "run":
        found = pairs(hangs, ("part", node[1]))
        params = [function[1] for function in program[2] if function[0] == node[1]][0]
        for param, argument in zip(params, node[2]):
            found |= pairs(reads_of(part, argument), ("local", node[1], param))
        return found
    if word == "give":
        return pairs(reads_of(part, node[1]) | hangs, ("result", part)) | pairs(hangs, ("part", part))
    if word == "stop":
        return pairs(hangs, ("end",))
    return set()


def pairs(firsts, last):
    return {(first, last) for first in firsts if first != last}


def plain_flows(program):
    """The set of all flows."""
    things = plain_things(program)
    found = set()
    for part in part_names(program):
        for spot in spots_of(program, part):
            found |= flows_of_spot(program, spot)
        for thing in things:
            if thing[0] in ("local", "result") and thing[1] == part:
                found |= pairs({("part", part)}, thing)
    for thing in things:
        if thing[0] in ("port", "takes"):
            found |= pairs({("end",)}, thing)
    return found


def plain_reached(found, thing):
    """The set of the things that a thing reaches by these flows."""
    reached = {thing}
    while True:
        more = {last for first, last in found if first in reached} - reached
        if not more:
            return reached
        reached |= more
