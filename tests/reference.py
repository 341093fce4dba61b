"""Another reading of [17] to [20], written as plainly as possible, to compare runs with."""

from hueward.programs import body_of


class Stopped(Exception):
    """The run has stopped."""


class Given(Exception):
    """A running has given a value, with its set."""


def held(node):
    """How many nodes a node and what stands in it are."""
    return 1 + sum([held(other) for other in standing_in(node)])


def standing_in(node):
    """The nodes directly in a node."""
    word = node[0]
    if word in ("let", "show", "cell"):
        return [node[2]]
    if word == "give":
        return [node[1]]
    if word == "put":
        return [node[2], node[3]]
    if word == "if":
        return [node[1]] + list(node[2]) + list(node[3])
    if word == "while":
        return [node[1]] + list(node[2])
    if word == "run":
        return list(node[2])
    if word in ("take", "stop", "mark", "number", "local"):
        return []
    return [node[1], node[2]]


class Frame:
    """A running: its part, its locals and their sets, its open tests and the ground that it began with."""

    def __init__(self, part, ground):
        self.part = part
        self.locals = {}
        self.sets = {}
        self.tests = []
        self.began = ground

    def ground(self):
        found = set(self.began)
        for test in self.tests:
            found |= test
        return found


class Reference:
    """A run. The place of the next step is None behind the end."""

    def __init__(self, program, inputs):
        self.program = program
        self.size = program[0]
        self.left = list(inputs)
        self.arrays = {name: list(values) for name, values in program[1]}
        self.array_sets = {name: set() for name, values in program[1]}
        self.takes_set = set()
        self.row = []
        self.sources = []
        self.steps = 0
        self.wraps = 0
        self._walk = self.main()
        self.place = next(self._walk)

    def step(self):
        """Does one step."""
        if self.place is not None:
            self.steps += 1
            self.place = next(self._walk, None)

    def state(self):
        return "stopped" if self.place is None else "running"

    def show(self, item, carriers):
        self.row.append(item)
        self.sources.append(tuple(sorted(carriers)))

    def main(self):
        frame = Frame("main", set())
        try:
            yield from self.part(frame)
        except Stopped:
            pass

    def part(self, frame):
        """Runs a part up to its end, which is a step."""
        body = body_of(self.program, frame.part)
        end = yield from self.body(frame, body, 0)
        yield (frame.part, end)
        if frame.part == "main":
            self.show(("stop",), frame.ground())
            raise Stopped
        raise Given(0, frame.ground())

    def body(self, frame, body, at):
        """Runs a body whose first node has the index at; returns the index behind it."""
        for node in body:
            yield from self.statement(frame, node, at)
            at += held(node)
        return at

    def opened(self, frame, body, at, test):
        """Runs a body with one test more open."""
        frame.tests.append(test)
        yield from self.body(frame, body, at)
        frame.tests.pop()

    def statement(self, frame, node, at):
        word = node[0]
        here = (frame.part, at)
        if word == "if":
            number, carriers = yield from self.value(frame, node[1], at + 1)
            yield here
            first = at + 1 + held(node[1])
            second = first + sum([held(other) for other in node[2]])
            if number != 0:
                yield from self.opened(frame, node[2], first, carriers)
            else:
                yield from self.opened(frame, node[3], second, carriers)
        elif word == "while":
            while True:
                number, carriers = yield from self.value(frame, node[1], at + 1)
                yield here
                if number == 0:
                    break
                yield from self.opened(frame, node[2], at + 1 + held(node[1]), carriers)
        else:
            yield from self.plain(frame, node, at)

    def plain(self, frame, node, at):
        """A statement without bodies."""
        word = node[0]
        values = []
        behind = at + 1
        for other in standing_in(node):
            values.append((yield from self.value(frame, other, behind)))
            behind += held(other)
        yield (frame.part, at)
        ground = frame.ground()
        if word == "let":
            frame.locals[node[1]] = values[0][0]
            frame.sets[node[1]] = values[0][1] | ground
        elif word == "put":
            cells = self.arrays[node[1]]
            cells[values[0][0] % len(cells)] = values[1][0]
            self.array_sets[node[1]] |= values[0][1] | values[1][1] | ground
        elif word == "show":
            self.show(("show", node[1], values[0][0]), values[0][1] | ground)
        elif word == "take":
            self.take(frame, node[1], ground)
        elif word == "give":
            raise Given(values[0][0], values[0][1] | ground)
        elif word == "stop":
            self.show(("stop",), ground)
            raise Stopped

    def take(self, frame, x, ground):
        whole = self.left.pop(0) if self.left else 0
        if whole >= self.size:
            self.wraps += 1
        number = whole % self.size
        self.takes_set |= ground
        frame.locals[x] = number
        frame.sets[x] = self.takes_set | {("takes",)}
        self.show(("take", number), frame.sets[x])

    def value(self, frame, node, at):
        """The pair of the value of an expression and its set."""
        word = node[0]
        values = []
        behind = at + 1
        for other in standing_in(node):
            values.append((yield from self.value(frame, other, behind)))
            behind += held(other)
        yield (frame.part, at)
        if word == "number":
            return node[1], set()
        if word == "local":
            return frame.locals.get(node[1], 0), {("local", frame.part, node[1])} | frame.sets.get(node[1], set())
        if word == "cell":
            cells = self.arrays[node[1]]
            return cells[values[0][0] % len(cells)], {("array", node[1])} | self.array_sets[node[1]] | values[0][1]
        if word == "run":
            return (yield from self.running(frame, node[1], values))
        return self.worked(word, values[0][0], values[1][0]), values[0][1] | values[1][1]

    def running(self, frame, name, values):
        """A running of a function, begun by the step just done."""
        begun = Frame(name, frame.ground())
        params = [function[1] for function in self.program[2] if function[0] == name][0]
        for x, (number, carriers) in zip(params, values):
            begun.locals[x] = number
            begun.sets[x] = set(carriers)
        try:
            yield from self.part(begun)
        except Given as given:
            return given.args

    def worked(self, word, one, other):
        if word == "rest":
            return one % other if other else 0
        if word == "less":
            return 1 if one < other else 0
        if word == "same":
            return 1 if one == other else 0
        whole = {"plus": one + other, "minus": one - other, "times": one * other}[word]
        if whole % self.size != whole:
            self.wraps += 1
        return whole % self.size


def differences(run, other):
    """The names of what is unlike in a run and in a reference."""
    pairs = {
        "place": (run.place, other.place),
        "steps": (run.steps, other.steps),
        "state": (run.state, other.state()),
        "row": (run.row, other.row),
        "left": (run.left, other.left),
        "wraps": (run.wraps, other.wraps),
        "sources": (run.sources, other.sources),
        "cells": ([run.cells(name) for name in other.arrays], list(other.arrays.values())),
    }
    return [name for name in pairs if pairs[name][0] != pairs[name][1]]
