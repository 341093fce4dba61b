"""Standings of benches: all that a bench has at a moment.

A standing that another one was made from is not changed any more, so that
benches can go back to it.
"""

from hueward.works import Works, twin_of


class Standing:
    """A code, the paper that shows it, the works, and the strikes that stand; of each whether it was done by hand."""

    def __init__(self, laid, proof, works):
        self.laid = laid
        self.proof = proof
        self.works = works
        self.strokes = []
        self.by_hand = []


def begun(laid, proof, given):
    """The standing of a code with these inputs ahead of the first step."""
    return Standing(laid, proof, Works(laid, given, ()))


def next_of(standing):
    """A standing at the same moment, to go on from."""
    found = Standing(standing.laid, standing.proof, twin_of(standing.works))
    found.strokes = list(standing.strokes)
    found.by_hand = list(standing.by_hand)
    return found


def paper_copy(paper):
    """A paper with its keys ascending and its tables as lists."""
    return {label: list(paper[label]) for label in sorted(paper)}


def deed_copy(deed):
    """A deed whose inputs, or the tables of whose paper, are lists of their own."""
    if deed[0] == "lay":
        return ("lay", deed[1], paper_copy(deed[2]))
    if deed[0] == "begin":
        return ("begin", list(deed[1]))
    return deed
