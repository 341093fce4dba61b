"""Tours: the addresses that a struck run comes to, and whether it keeps to stretches."""

from hueward.works import Works, do_coming, do_step, fetched


class Tour:
    """Cells, a dict from the addresses of their instructions to the stretches, and the address of each step.

    A step that is caught by its fetch has None for an address.
    """

    def __init__(self, inside, parts):
        self.inside = inside
        self.ends = {at: (first, end) for first, end in parts for at in range(first, end)}
        self.ways = []


def is_off(tour, at):
    """Whether a stretch is left ahead of its end, or come into amid, if an address comes next."""
    last = tour.ways[-1] if tour.ways else None
    if last in tour.ends and last != tour.ends[last][1] - 1:
        return at != last + 1
    return at in tour.ends and at != tour.ends[at][0]


def toured(tour, code, inputs, strikes, steps):
    """Leads a tour along a struck run; the number of the first step that is off the stretches, None without one."""
    works = Works(code, inputs, strikes)
    for step in range(steps):
        if works.word != "running":
            break
        do_coming(works)
        at = fetched(works)
        if at is not None and is_off(tour, at):
            return step
        tour.ways.append(at)
        do_step(works)
    return None
