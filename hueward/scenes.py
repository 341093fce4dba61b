"""Unstruck runs, with all that single strikes on them are laid beside."""

from hueward.liveness import live_spots, spots_in
from hueward.machine import is_unanimous
from hueward.markplaces import is_full
from hueward.spots import used_by
from hueward.works import Works, do_step, fetched, twin_of

# Works are kept ahead of each so manieth step; those between are made again.
EACH_KEPT = 64


class Scene:
    """The unstruck run of a code: its row, state and count of steps, and its works ahead of each step.

    It bears one if no strike of a single hue changes what it shows, since
    enough other hues always agree. It keeps the fates of struck runs, too, by
    what they came by.
    """

    def __init__(self, code, inputs, steps):
        self.struck_code = code
        self.limit = steps
        self.live = live_spots(code)
        self.live_lists = {}
        self.fates = {}
        works = Works(code, inputs, ())
        self.saved = []
        self.bears_one = is_full(code) and code[0][-1] < len(code[0])
        while works.word == "running" and works.done < steps:
            at = fetched(works)
            if at is not None and not is_unanimous(works, at):
                self.bears_one = False
            if works.done % EACH_KEPT == 0:
                self.saved.append(twin_of(works))
            do_step(works)
        self.right_row = works.shown
        self.word = works.word
        self.many = works.done
        self.near = []
        self.near_first = 0

    def works_ahead(self, step):
        """The works ahead of a step, which are not to be changed."""
        if not self.near_first <= step < self.near_first + len(self.near):
            works = twin_of(self.saved[step // EACH_KEPT])
            self.near_first = works.done
            self.near = []
            while len(self.near) < EACH_KEPT and works.word == "running" and works.done < self.many:
                self.near.append(twin_of(works))
                do_step(works)
        return self.near[step - self.near_first]

    def live_at(self, address):
        """The list of the spots that may still be needed at an address."""
        if address not in self.live_lists:
            self.live_lists[address] = spots_in(self.live[address])
        return self.live_lists[address]

    def used_at(self, step):
        """What a step uses: a dict from spots to words, without the pointers."""
        return used_by(self.struck_code, self.works_ahead(step))
