"""Widths: how many hues work out each thing of a program."""

from hueward.cells import MOST_HUES
from hueward.checks import is_within
from hueward.codes import check_votes
from hueward.errors import BadHues, BadStruck, BadWidths, BadWishes
from hueward.flows import LOOPS, TAKES, has_bool, web_of
from hueward.programs import GREATEST_PORT, check_program
from hueward.trees import listed


def has_mark(program):
    """Whether a program has a mark."""
    return any([node[0] == "mark" for node in listed(program[3])])


def is_settled(thing):
    """Whether a thing is one that is wished: a port, the takes or the loops."""
    return thing[0] == "port" or thing == TAKES or thing == LOOPS


def are_widths(web, hues, value):
    """Whether any value is widths for so many hues."""
    if not isinstance(value, dict) or len(value) != len(web.things):
        return False
    for thing, width in value.items():
        if not isinstance(thing, tuple) or thing not in web.order or has_bool(thing):
            return False
        if not is_within(width, 0, hues):
            return False
    return True


def narrow_flow(web, widths):
    """The first flow of a thing into one of a greater width; None if there is none."""
    for first, last in sorted(web.found):
        if widths[web.things[first]] < widths[web.things[last]]:
            return (web.things[first], web.things[last])
    return None


def are_fit(web, hues, value):
    """Whether any value is fit widths for so many hues."""
    if not are_widths(web, hues, value) or narrow_flow(web, value) is not None:
        return False
    if has_mark(web.program):
        return all([width == hues for width in value.values()])
    return all([width >= 1 for thing, width in value.items() if is_settled(thing)])


def are_wishes(hues, value):
    """Whether any value is wishes for so many hues."""
    if not isinstance(value, dict):
        return False
    for wished, width in value.items():
        if wished != "takes" and wished != "loops" and not is_within(wished, 0, GREATEST_PORT):
            return False
        if not is_within(width, 1, hues):
            return False
    return True


def is_struck(value, hues):
    """Whether any value is an ascending list of unlike hues below a count."""
    if not isinstance(value, (list, tuple)):
        return False
    least = 0
    for hue in value:
        if not is_within(hue, least, hues - 1):
            return False
        least = hue + 1
    return True


def check_hues(hues):
    """BadHues unless this is a count of hues."""
    if not is_within(hues, 1, MOST_HUES):
        raise BadHues(f"hues are a whole from 1 to {MOST_HUES}")


def check_fit(web, hues, widths):
    """BadWidths unless these are fit widths for so many hues."""
    if not are_fit(web, hues, widths):
        raise BadWidths(f"these are no fit widths for {hues} hues")


def check_struck(struck, hues):
    """BadStruck unless this is an ascending list of unlike hues below a count."""
    if not is_struck(struck, hues):
        raise BadStruck(f"struck hues are an ascending list of wholes below {hues}")


def first_narrow(program, widths):
    """The first flow of a thing into one of a greater width; None if there is none."""
    check_program(program)
    web = web_of(program)
    if not are_widths(web, MOST_HUES, widths):
        raise BadWidths("widths are a dict of all things")
    return narrow_flow(web, widths)


def is_fit(program, hues, value):
    """Whether a value is fit widths of the program for so many hues."""
    check_program(program)
    check_hues(hues)
    return are_fit(web_of(program), hues, value)


def wish_of(thing, wishes):
    """The width that is wished for a thing; 0 where none can be."""
    if thing[0] == "port":
        return wishes.get(thing[1], 1)
    if is_settled(thing):
        return wishes.get(thing[0], 1)
    return 0


def least_widths(program, hues, wishes):
    """The least fit widths that have at least the wishes."""
    check_program(program)
    check_hues(hues)
    if not are_wishes(hues, wishes):
        raise BadWishes("wishes are a dict from ports, takes and loops to widths")
    web = web_of(program)
    if has_mark(program):
        return {thing: hues for thing in web.things}
    found = [wish_of(thing, wishes) for thing in web.things]
    tails = web.backward()
    waiting = list(range(len(found)))
    while waiting:
        at = waiting.pop()
        for tail in tails[at]:
            if found[tail] < found[at]:
                found[tail] = found[at]
                waiting.append(tail)
    return dict(zip(web.things, found))


def settled_of(widths):
    """The ascending list of the unlike widths above 0 of ports and tests."""
    found = [width for thing, width in widths.items() if thing[0] == "port" or thing[0] == "test"]
    return [width for width in sorted(set(found)) if width > 0]


def settled_widths(program, widths):
    """The ascending list of the unlike widths above 0 of ports and tests."""
    check_program(program)
    web = web_of(program)
    if not any([are_fit(web, hues, widths) for hues in range(1, MOST_HUES + 1)]):
        raise BadWidths("these are fit widths for no count of hues")
    return settled_of(widths)


def counted_widths(widths, hues):
    """The ascending list of the widths at which hues are counted: those of settles, and that of all hues."""
    return sorted(set(settled_of(widths) + [hues]))


def many_below(struck, width):
    """How many of the struck hues are below a width."""
    return len([hue for hue in struck if hue < width])


def check_judged(program, votes, widths, struck):
    """The errors of the parameters of safe_things and is_whole; returns the program's web."""
    check_program(program)
    check_votes(votes)
    web = web_of(program)
    check_fit(web, len(votes), widths)
    check_struck(struck, len(votes))
    return web


def safe_things(program, votes, widths, struck):
    """The list of the things that stay right whatever strikes of these hues do."""
    web = check_judged(program, votes, widths, struck)
    counted = counted_widths(widths, len(votes))
    found = []
    for thing in web.things:
        wide = [width for width in counted if width >= widths[thing]]
        if widths[thing] > 0 and all([many_below(struck, width) < votes[width - 1] for width in wide]):
            found.append(thing)
    return found


def is_whole(program, votes, widths, struck):
    """Whether strikes of these hues change nothing of the row."""
    check_judged(program, votes, widths, struck)
    counted = counted_widths(widths, len(votes))
    return all([many_below(struck, width) <= width - votes[width - 1] for width in counted])
