"""Counts of what single strikes on a run do."""

from hueward.bands import OTHER, SAME, WRONG
from hueward.checks import check_inputs, check_steps, is_within
from hueward.codes import check_code, check_hue, is_place
from hueward.errors import BadPlace, BadStep
from hueward.scenes import Scene
from hueward.spots import READ, each_of, place_of, spot_index, used_by
from hueward.surveys import Survey, is_pointer, news_for, news_many, outcomes_at
from hueward.works import Works, do_step

# The words of outcomes, from mild to bad.
OUTCOMES = ("same", "caught", "other", "wrong")


def word_of(fate):
    """The word of a fate."""
    if fate == SAME:
        return "same"
    if fate == OTHER:
        return "other"
    return "wrong" if fate == WRONG else "caught"


def check_run(code, inputs, steps):
    """The errors of a code, inputs and steps."""
    check_code(code)
    check_inputs(inputs)
    check_steps(steps)


def check_state_place(code, hue, place):
    """BadHue, and BadPlace unless this is a place of single strikes."""
    check_hue(code, hue)
    if not is_place(code, hue, place) or place[0] == "code":
        raise BadPlace("this is no place of single strikes")


def spans(code, inputs, steps, hue, place):
    """The list of the spans of a place: the first and last step of each, and a word for what ends it."""
    check_run(code, inputs, steps)
    check_state_place(code, hue, place)
    spot = spot_index(code, hue, place)
    works = Works(code, inputs, ())
    found = []
    first = 0
    while works.word == "running" and works.done < steps:
        word = READ if is_pointer(code, spot) else used_by(code, works).get(spot)
        do_step(works)
        if word is not None:
            found.append((first, works.done - 1, word))
            first = works.done
    if first < works.done:
        found.append((first, works.done - 1, "kept"))
    return found


def fates_at(scene, spot, step):
    """The list of the fates of the strikes of a spot ahead of a step, by their values."""
    news = news_for(scene.struck_code, spot)
    if scene.bears_one:
        return [SAME] * len(news)
    survey = Survey(scene, [])
    if not is_pointer(scene.struck_code, spot):
        while step < scene.many and spot not in scene.used_at(step):
            step += 1
        if step == scene.many or scene.used_at(step)[spot] != READ:
            return [SAME] * len(news)
    outcomes = outcomes_at(survey, spot, step)
    return [outcomes.others.get(new, outcomes.most) for new in news]


def value_ranges(code, inputs, steps, hue, place, at):
    """The ranges of values with one outcome of the strikes of a place ahead of a step: first, last and word."""
    check_run(code, inputs, steps)
    check_state_place(code, hue, place)
    scene = Scene(code, inputs, steps)
    if not is_within(at, 0, scene.many - 1):
        raise BadStep("the run does no such step")
    spot = spot_index(code, hue, place)
    found = []
    for new, fate in zip(news_for(code, spot), fates_at(scene, spot, at)):
        word = word_of(fate)
        if found and found[-1][0] is not None and found[-1][2] == word:
            found[-1] = (found[-1][0], new, word)
        else:
            found.append((new, new, word))
    return found


def all_spots(code):
    """The list of all spots of a code."""
    return list(range(len(code[0]) * each_of(code)))


def spans_told(survey):
    """For each span that ends with a read, a tuple: its spot, its first and last step, and the outcomes."""
    found = []
    for spot, rows in survey.told.items():
        for k, (last, outcomes) in enumerate(rows):
            first = rows[k + 1][0] + 1 if k + 1 < len(rows) else 0
            found.append((spot, first, last, outcomes))
    return found


def words_of(code, spot, outcomes):
    """How many strikes of a spot have each word."""
    fates = list(outcomes.others.values())
    found = {word_of(fate): fates.count(fate) for fate in (SAME, OTHER, WRONG)}
    found["caught"] = len(fates) - sum(list(found.values()))
    found[word_of(outcomes.most)] += news_many(code, spot) - len(fates)
    return found


def tally_of(code, inputs, steps, spots):
    """How many single strikes of these spots have each outcome."""
    scene = Scene(code, inputs, steps)
    found = {word: 0 for word in OUTCOMES}
    for spot in spots:
        found["same"] += scene.many * news_many(code, spot)
    for spot, first, last, outcomes in spans_told(Survey(scene, spots)):
        many = words_of(code, spot, outcomes)
        for word in OUTCOMES[1:]:
            found[word] += many[word] * (last - first + 1)
            found["same"] -= many[word] * (last - first + 1)
    return found


def tally(code, inputs, steps, hue=None):
    """How many single strikes, of all hues or of one, have each outcome."""
    check_run(code, inputs, steps)
    if hue is None:
        return tally_of(code, inputs, steps, all_spots(code))
    check_hue(code, hue)
    each = each_of(code)
    return tally_of(code, inputs, steps, all_spots(code)[hue * each:(hue + 1) * each])


def tally_at(code, inputs, steps, hue, place):
    """How many single strikes of a place of a hue have each outcome."""
    check_run(code, inputs, steps)
    check_state_place(code, hue, place)
    return tally_of(code, inputs, steps, [spot_index(code, hue, place)])


def strike_of(code, spot, step, new):
    """The strike of a spot ahead of a step."""
    return (step, spot // each_of(code), place_of(code, spot), new)


def fates_told(code, spot, outcomes):
    """A dict from the fates of the strikes of a spot to the first values that have them."""
    news = news_for(code, spot)
    if not outcomes.others:
        return {outcomes.most: news[0]}
    found = {}
    for new in news:
        found.setdefault(outcomes.others.get(new, outcomes.most), new)
    return found


def worst_strike(code, inputs, steps):
    """The pair of the worst outcome of a single strike and the first strike that has it; None without a step."""
    check_run(code, inputs, steps)
    scene = Scene(code, inputs, steps)
    if scene.many == 0:
        return None
    best = (0, 0, 0, 0)
    for spot, first, _, outcomes in spans_told(Survey(scene, all_spots(code))):
        for fate, new in fates_told(code, spot, outcomes).items():
            # Worse ones are greater, and so are earlier ones; of one spot the first values come first.
            better = (OUTCOMES.index(word_of(fate)), -first, -spot)
            if better > best[:3]:
                best = better + (new,)
    return (OUTCOMES[best[0]], strike_of(code, -best[2], -best[1], best[3]))


def longest_delay(code, inputs, steps):
    """The pair of the greatest delay of a caught strike and the first strike that has it; None if none is caught."""
    check_run(code, inputs, steps)
    survey = Survey(Scene(code, inputs, steps), all_spots(code))
    best = (0, 0, 0)
    for spot, first, _, outcomes in spans_told(survey):
        for fate, new in fates_told(code, spot, outcomes).items():
            better = (fate - first, -first, -spot)
            if fate > 0 and better > best[:3]:
                best = better + (new,)
    if best[0] == 0:
        return None
    return (best[0], strike_of(code, -best[2], -best[1], best[3]))
