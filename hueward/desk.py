"""A desk, at which lines are said that do deeds at a bench, or ask about it."""

from hueward.bench import Bench
from hueward.codetexts import code_of, code_text, line_of
from hueward.compiling import compiled
from hueward.errors import BadCodeText, BadHue, BadInputs, BadMost, BadNew, BadPlace, BadSteps, BadText, BadVotes, Ended
from hueward.errors import Full, NoPaper, NotCaught, NothingDone, NotKept, TooLarge, Unclear
from hueward.papermaking import made_paper
from hueward.progtexts import program_of
from hueward.sayings import form_of
from hueward.sightings import STATES
from hueward.striketexts import EMPTY_SLOT, text_of_strikes

DONE = "ok"
NO_BENCH = "empty"
NO_FORM = "what"
NOTHING_THERE = "-"
NO_BLAME = "none"


def told(text):
    """A text, or a sign for the empty one."""
    return text if text != "" else NOTHING_THERE


def told_row(bench):
    """The items of the row."""
    return told(", ".join([line_of(item) for item in bench.row]))


def told_state(bench):
    """The state and the steps."""
    return line_of((bench.state, bench.steps))


def told_strikes(bench):
    """The text of the strikes."""
    return told(text_of_strikes(bench.strikes))


def told_struck(bench):
    """The struck hues."""
    return told(line_of(bench.struck))


def told_verdict(bench):
    """The word of the verdict."""
    return bench.verdict()


def told_sights(bench):
    """The word for the sights, and the pointers or slots."""
    word, sights = bench.sights()
    if word == STATES:
        return word
    return line_of([word] + [EMPTY_SLOT if sight is None else sight for sight in sights])


def told_code(bench):
    """The text of the code."""
    return code_text(bench.code)


def told_kept(bench):
    """The names of the kept moments."""
    return told(line_of(bench.kept))


QUESTIONS = {
    "row": told_row,
    "state": told_state,
    "strikes": told_strikes,
    "struck": told_struck,
    "verdict": told_verdict,
    "sights": told_sights,
    "code": told_code,
    "kept": told_kept,
}


def told_fits(bench, most):
    """How many sights fit."""
    return str(len(bench.fits(most)))


def told_blames(bench, most):
    """The blamed hues."""
    found = bench.blames(most)
    return NO_BLAME if found is None else told(line_of(found))


def do_go(bench, steps):
    """The deed of going on."""
    bench.go(steps)
    return DONE


def do_lead(bench, most):
    """The deed of leading."""
    bench.lead(most)
    return DONE


def do_begin(bench, inputs):
    """The deed of beginning."""
    bench.begin(inputs)
    return DONE


def do_keep(bench, name):
    """The deed of keeping."""
    bench.keep(name)
    return DONE


def do_back(bench, name):
    """The deed of going back."""
    bench.back(name)
    return DONE


WITH_ONE = {
    "fits": told_fits,
    "blames": told_blames,
    "go": do_go,
    "lead": do_lead,
    "begin": do_begin,
    "keep": do_keep,
    "back": do_back,
}


def answer_of(bench, form):
    """The answer of a bench to a line of this form."""
    word = form[0]
    if word == "undo":
        bench.undo()
        return DONE
    if word == "strike":
        bench.strike(form[1], form[2], form[3])
        return DONE
    if word in WITH_ONE:
        action = WITH_ONE[word]
        return action(bench, form[1])
    asked = QUESTIONS[word]
    return asked(bench)


def answered(bench, form):
    """The answer of a bench to a line of this form, also if it is an error."""
    try:
        return answer_of(bench, form)
    except BadInputs:
        return "error badinputs"
    except BadSteps:
        return "error badsteps"
    except BadMost:
        return "error badmost"
    except BadHue:
        return "error badhue"
    except BadPlace:
        return "error badplace"
    except BadNew:
        return "error badnew"
    except Ended:
        return "error ended"
    except Full:
        return "error full"
    except NotCaught:
        return "error notcaught"
    except Unclear:
        return "error unclear"
    except NotKept:
        return "error notkept"
    except NothingDone:
        return "error nothingdone"


def code_read(form):
    """The code that a line of this form brings."""
    if form[0] == "load":
        return code_of(form[1])
    return compiled(program_of(form[2]), form[1])


class Desk:
    """A desk, at which a bench stands once one was read or loaded."""

    def __init__(self):
        self._bench = None

    def say(self, line):
        """The answer to a line."""
        form = form_of(line)
        if form is None:
            return NO_FORM
        if form[0] == "read" or form[0] == "load":
            return self._put_up(form)
        if self._bench is None:
            return NO_BENCH
        return answered(self._bench, form)

    def _put_up(self, form):
        """Puts up a bench of a text, in the place of the one there; the answer."""
        try:
            code = code_read(form)
            self._bench = Bench(code, made_paper(code), [])
        except BadText as wrong_text:
            return f"error badtext {wrong_text.line} {wrong_text.column}"
        except BadCodeText as wrong_code:
            return f"error badcodetext {wrong_code.line}"
        except BadVotes:
            return "error badvotes"
        except TooLarge:
            return "error toolarge"
        except NoPaper as no_paper:
            return f"error nopaper {no_paper.address}"
        return DONE
