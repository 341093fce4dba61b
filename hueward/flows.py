"""What flows into what in a program, by its text alone."""

from hueward.errors import BadThing
from hueward.programs import body_of, check_program, local_names, names_of_parts, params_of
from hueward.trees import inner_nodes, listed

TAKES = ("takes",)
LOOPS = ("loops",)
END = ("end",)


class Web:
    """The things of a program with their indexes, and the flows among these that were found."""

    def __init__(self, program):
        self.program = program
        self.things = things_of(program)
        self.order = {}
        for at, thing in enumerate(self.things):
            self.order[thing] = at
        self.found = {}

    def add_flows(self, firsts, last):
        """Each of these things flows into the last one, unless it is itself."""
        for first in firsts:
            if first != last:
                self.found[(self.order[first], self.order[last])] = True

    def onward(self):
        """A list with the ascending indexes of what each thing flows into."""
        heads = [[] for _ in self.things]
        for first, last in sorted(self.found):
            heads[first].append(last)
        return heads

    def backward(self):
        """A list with the ascending indexes of what flows into each thing."""
        tails = [[] for _ in self.things]
        for first, last in sorted(self.found):
            tails[last].append(first)
        return tails


def things_of_part(program, part):
    """The things of a part, in order."""
    found = [("part", part)]
    found.extend([("local", part, x) for x in local_names(program, part)])
    for at, node in enumerate(listed(body_of(program, part))):
        if node[0] == "if" or node[0] == "while":
            found.append(("test", part, at))
    if part != "main":
        found.append(("result", part))
    return found


def shown_ports(program):
    """The ascending list of the ports of all shows."""
    found = []
    for part in names_of_parts(program):
        found.extend([node[1] for node in listed(body_of(program, part)) if node[0] == "show"])
    return sorted(set(found))


def things_of(program):
    """The list of the things of a program."""
    found = [("array", array[0]) for array in program[1]]
    for part in names_of_parts(program):
        found.extend(things_of_part(program, part))
    found.extend([("port", port) for port in shown_ports(program)])
    return found + [TAKES, LOOPS, END]


def reads(part, node):
    """The list of the things that an expression of a part reads."""
    word = node[0]
    if word == "local":
        return [("local", part, node[1])]
    if word == "run":
        return [("result", node[1])]
    found = []
    if word == "cell":
        found.append(("array", node[1]))
    for inside in inner_nodes(node):
        found.extend(reads(part, inside))
    return found


def has_bool(value):
    """Whether True or False stands in a tuple; they equal wholes, but are none."""
    return any([isinstance(item, bool) for item in value])


def add_node(web, part, node, at, hangs):
    """Adds the flows of the node with the index at and of what stands in it; returns the index behind it.

    The node hangs on the things of a list.
    """
    inside = hangs
    if node[0] == "if" or node[0] == "while":
        inside = hangs + [("test", part, at)]
    behind = at + 1
    for place, inner in enumerate(inner_nodes(node)):
        if node[0] == "if" and place == 0:
            behind = add_node(web, part, inner, behind, hangs)
        else:
            behind = add_node(web, part, inner, behind, inside)
    add_own(web, part, node, at, hangs)
    return behind


def add_own(web, part, node, at, hangs):
    """Adds the flows that a node itself makes."""
    word = node[0]
    if word == "let":
        web.add_flows(reads(part, node[2]) + hangs, ("local", part, node[1]))
    elif word == "put":
        web.add_flows(reads(part, node[2]) + reads(part, node[3]) + hangs, ("array", node[1]))
    elif word == "show":
        web.add_flows(reads(part, node[2]) + hangs, ("port", node[1]))
    elif word == "take":
        web.add_flows(hangs, TAKES)
        web.add_flows([TAKES], ("local", part, node[1]))
    elif word == "if" or word == "while":
        web.add_flows(reads(part, node[1]) + hangs, ("test", part, at))
        if word == "while":
            web.add_flows([("test", part, at)], LOOPS)
    elif word == "run":
        add_run(web, part, node, hangs)
    elif word == "give":
        web.add_flows(reads(part, node[1]) + hangs, ("result", part))
        web.add_flows(hangs, ("part", part))
    elif word == "stop":
        web.add_flows(hangs, END)


def add_run(web, part, node, hangs):
    """Adds the flows that a run makes."""
    name, arguments = node[1:]
    web.add_flows(hangs, ("part", name))
    for param, argument in zip(params_of(web.program, name), arguments):
        web.add_flows(reads(part, argument), ("local", name, param))


def web_of(program):
    """The web of a program, with all its flows."""
    web = Web(program)
    for part in names_of_parts(program):
        at = 0
        for node in body_of(program, part):
            at = add_node(web, part, node, at, [("part", part)])
        for thing in things_of_part(program, part):
            if thing[0] == "local" or thing[0] == "result":
                web.add_flows([("part", part)], thing)
    for thing in web.things:
        if thing[0] == "port" or thing == TAKES:
            web.add_flows([END], thing)
    return web


def distances(heads, first):
    """For each index how many flows lead there from the first one at least; None where none do."""
    found = [None] * len(heads)
    found[first] = 0
    waiting = [first]
    # The list grows while it is gone through, nearest ones first.
    done = 0
    while done < len(waiting):
        at = waiting[done]
        done += 1
        for head in heads[at]:
            if found[head] is None:
                found[head] = found[at] + 1
                waiting.append(head)
    return found


def check_thing(web, thing):
    """BadThing unless this is a thing of the program."""
    if not isinstance(thing, tuple) or has_bool(thing) or thing not in web.things:
        raise BadThing("the program has no such thing")


def things(program):
    """The list of the things of a program."""
    check_program(program)
    return things_of(program)


def flows(program):
    """The list of the flows of a program, ascending by the indexes of their things."""
    check_program(program)
    web = web_of(program)
    return [(web.things[first], web.things[last]) for first, last in sorted(web.found)]


def reached(program, thing):
    """The list of the things that a thing reaches, in the order of things."""
    check_program(program)
    web = web_of(program)
    check_thing(web, thing)
    found = distances(web.onward(), web.order[thing])
    return [other for other, far in zip(web.things, found) if far is not None]


def chain(program, first, last):
    """The shortest list of things from one to another, each flowing into the next one; None if there is none."""
    check_program(program)
    web = web_of(program)
    check_thing(web, first)
    check_thing(web, last)
    heads = web.onward()
    goal = web.order[last]
    at = web.order[first]
    if distances(heads, at)[goal] is None:
        return None
    far = distances(web.backward(), goal)
    result = [web.things[at]]
    while at != goal:
        # Of several nearer ones the first one by its index is taken.
        at = [head for head in heads[at] if far[head] is not None and far[head] < far[at]][0]
        result.append(web.things[at])
    return result
