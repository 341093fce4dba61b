"""Benches, on which a machine is struck and led on, with deeds that can be undone."""

from hueward.checks import MOST_STEPS, check_inputs, check_steps, is_within
from hueward.codes import MOST_STRIKES, check_strike
from hueward.errors import BadMoment, BadName, BadSteps, Ended, Full, NotCaught, NotKept, NotShown, NothingDone, Unclear
from hueward.papers import doubts
from hueward.programs import is_name
from hueward.sightings import blamed, fitting, leading_strikes, sights_of
from hueward.standings import begun, deed_copy, next_of, paper_copy
from hueward.thresholds import check_most, hues_in, judged
from hueward.works import do_strike, go_on, left_of, moment_of

# A code and a paper that are made as quickly as can be, for what is filled in at once.
LEAST_CODE = ((1,), 2, (("stop",),), ())


def check_shown(code, paper):
    """BadCode, BadPaper, or NotShown with the first doubt, unless the paper shows the code."""
    found = doubts(code, paper)
    if found:
        raise NotShown(found[0])


class Bench:
    """A code that its paper shows, inputs, and a machine that is struck while it runs.

    It has what it had ahead of each deed that stands, the deeds themselves,
    and what it began with.
    """

    def __init__(self, code, paper, inputs):
        check_shown(code, paper)
        check_inputs(inputs)
        self._now = begun(code, paper_copy(paper), list(inputs))
        self._named = {}
        self._before = []
        self._deeds = []
        self._first = (code, paper_copy(paper), list(inputs))

    def __eq__(self, other):
        return isinstance(other, Bench) and self._first == other._first and self._deeds == other._deeds

    def __len__(self):
        return len(self._deeds)

    @property
    def code(self):
        """The code."""
        return self._now.laid

    @property
    def paper(self):
        """The paper, its tables as lists."""
        return paper_copy(self._now.proof)

    @property
    def inputs(self):
        """The list of the inputs."""
        return list(self._now.works.given)

    @property
    def row(self):
        """The list of the items so far."""
        return list(self._now.works.shown)

    @property
    def state(self):
        """Running, stopped or caught, as a word."""
        return self._now.works.word

    @property
    def steps(self):
        """How many steps were done."""
        return self._now.works.done

    @property
    def left(self):
        """The list of the inputs that were not taken."""
        return left_of(self._now.works)

    @property
    def strikes(self):
        """The list of the strikes that stand."""
        return list(self._now.strokes)

    @property
    def struck(self):
        """The ascending tuple of the hues that were struck by strike."""
        return hues_in([stroke for stroke, is_own in zip(self._now.strokes, self._now.by_hand) if is_own])

    @property
    def kept(self):
        """The ascending list of the names of the kept moments."""
        return sorted(self._named)

    @property
    def log(self):
        """The list of the deeds that stand."""
        return [deed_copy(deed) for deed in self._deeds]

    def go(self, steps):
        """The machine does so many steps more, fewer if it is not running any more."""
        check_steps(steps)
        if self._now.works.done + steps > MOST_STEPS:
            raise BadSteps(f"a bench does at most {MOST_STEPS} steps")
        self._do(("go", steps), next_of(self._now), self._named)
        go_on(self._now.works, steps)

    def strike(self, hue, place, new):
        """Sets one thing of a hue at once; this is no step."""
        check_strike(self._now.laid, hue, place, new)
        if self._now.works.word != "running":
            raise Ended("the machine is not running any more")
        if len(self._now.strokes) >= MOST_STRIKES:
            raise Full(f"{MOST_STRIKES} strikes stand")
        self._do(("strike", hue, place, new), next_of(self._now), self._named)
        self._put_stroke(hue, place, new, True)

    def lead(self, most):
        """Takes the caught step back, and gives the hues that differ the one sight that fits."""
        found = self.fits(most)
        if len(found) != 1:
            raise Unclear(len(found))
        told = leading_strikes(self._now.works, found[0])
        if len(self._now.strokes) + len(told) > MOST_STRIKES:
            raise Full(f"more than {MOST_STRIKES} strikes would stand")
        self._do(("lead", most), next_of(self._now), self._named)
        works = self._now.works
        works.word = "running"
        works.done -= 1
        for hue, place, new in told:
            self._put_stroke(hue, place, new, False)

    def lay(self, code, paper):
        """The bench has this code and paper, and the machine begins anew."""
        check_shown(code, paper)
        proof = paper_copy(paper)
        self._do(("lay", code, proof), begun(code, proof, self._now.works.given), self._named)

    def begin(self, inputs):
        """The bench has these inputs, and the machine begins anew."""
        check_inputs(inputs)
        given = list(inputs)
        self._do(("begin", given), begun(self._now.laid, self._now.proof, given), self._named)

    def keep(self, name):
        """Keeps this moment by a name."""
        if not is_name(name):
            raise BadName("a moment is kept by a name")
        named = {other: self._named[other] for other in self._named}
        named[name] = self._now
        self._do(("keep", name), self._now, named)

    def back(self, name):
        """All but what is kept is as at the moment that is kept by the name."""
        if not isinstance(name, str) or name not in self._named:
            raise NotKept(name)
        self._do(("back", name), self._named[name], self._named)

    def undo(self):
        """Takes the last deed that stands back."""
        if not self._deeds:
            raise NothingDone("no deed stands")
        self._deeds.pop()
        self._now, self._named = self._before.pop()

    def moment(self):
        """All of the hues, and the state and the inputs left."""
        return moment_of(self._now.works)

    def verdict(self):
        """The word for the struck run beside the unstruck one: same, wrong, caught or other."""
        works = self._now.works
        return judged(self._now.laid, works.given, self._now.strokes, works.done)

    def sights(self):
        """What the hues have where the last step was caught: a word for what it is, and the tuple of it by hues."""
        self._check_caught()
        return sights_of(self._now.works)

    def fits(self, most):
        """The ascending list of the unlike sights that fit."""
        check_most(most)
        self._check_caught()
        return fitting(self._now.works, most)

    def blames(self, most):
        """The ascending tuple of the hues whose sights do not fit; None if none fits."""
        check_most(most)
        self._check_caught()
        return blamed(self._now.works, most)

    def row_at(self, at):
        """The row as it was when so many deeds of the log had been done."""
        if not is_within(at, 0, len(self._deeds)):
            raise BadMoment("the log has no such moment")
        if at == len(self._deeds):
            return self.row
        return list(self._before[at][0].works.shown)

    def copy(self):
        """An independent bench, equal to this one."""
        twin = Bench(LEAST_CODE, {0: []}, [])
        twin._now = self._now
        twin._named = self._named
        twin._before = list(self._before)
        twin._deeds = list(self._deeds)
        twin._first = self._first
        return twin

    def tried(self, task):
        """What a function gives for the bench; if an exception leaves it, all is as ahead of it."""
        now, named, before, deeds = self._now, self._named, list(self._before), list(self._deeds)
        ended = None
        try:
            found = task(self)
            ended = True
        finally:
            if ended is None:
                self._now, self._named, self._before, self._deeds = now, named, before, deeds
        return found

    def _do(self, deed, standing, named):
        """A deed stands, behind which the bench has this standing and these kept moments."""
        self._before.append((self._now, self._named))
        self._deeds.append(deed)
        self._now = standing
        self._named = named

    def _put_stroke(self, hue, place, new, is_own):
        """A strike is done, and stands."""
        do_strike(self._now.works, hue, place, new)
        self._now.strokes.append((self._now.works.done, hue, place, new))
        self._now.by_hand.append(is_own)

    def _check_caught(self):
        """NotCaught unless the machine is caught."""
        if self._now.works.word != "caught":
            raise NotCaught("the machine is not caught")
