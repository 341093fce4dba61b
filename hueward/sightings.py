"""Sights: what the hues have where a step was caught, and which of them the others outvote."""

from hueward.works import fetched, state_of

POINTERS = "pointers"
SLOTS = "slots"
STATES = "states"


def sights_of(works):
    """The word for the sights of caught works, and the tuple of them, by hues."""
    at = fetched(works)
    if at is None:
        return (POINTERS, tuple(works.heads))
    cell = works.tape[at]
    if cell[0] == "mark":
        found = []
        for hue in range(len(works.votes)):
            numbers, bank = state_of(works, hue)
            found.append((tuple(numbers), tuple(bank)))
        return (STATES, tuple(found))
    return (SLOTS, tuple(works.offers[:cell[2]]))


def may_fit(works, word, sight):
    """Whether a sight is an address, a number or any state."""
    if word == POINTERS:
        return sight < len(works.tape)
    return sight is not None


def fitting(works, most):
    """The ascending list of the unlike sights from which at most so many hues differ."""
    word, sights = sights_of(works)
    found = []
    for sight in sights:
        if may_fit(works, word, sight) and len(sights) - sights.count(sight) <= most and sight not in found:
            found.append(sight)
    return sorted(found)


def blamed(works, most):
    """The ascending tuple of the hues whose sights do not fit; None if none fits."""
    found = fitting(works, most)
    if not found:
        return None
    sights = sights_of(works)[1]
    return tuple([hue for hue, sight in enumerate(sights) if sight not in found])


def places_unlike(word, sight, right):
    """The list of the pairs of a place and what is right there, where a sight is not."""
    if sight == right:
        return []
    if word == POINTERS:
        return [(("pointer",), right)]
    if word == SLOTS:
        return [(("slot",), right)]
    found = []
    for kind, ones, others in (("register", sight[0], right[0]), ("cell", sight[1], right[1])):
        found.extend([((kind, at), other) for at, (one, other) in enumerate(zip(ones, others)) if one != other])
    return found


def leading_strikes(works, right):
    """The list of hues, places and what is set there, so that all sights become the right one."""
    word, sights = sights_of(works)
    found = []
    for hue, sight in enumerate(sights):
        found.extend([(hue, place, new) for place, new in places_unlike(word, sight, right)])
    return found
