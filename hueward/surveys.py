"""Surveys of single strikes on a run: what becomes of each.

A strike has the same outcome as a later one of its spot and value, up to the
next step that uses the spot. So of each spot only the steps that use it are
looked at, the last one first; and as soon as a struck run on its way differs
from the unstruck one in a single spot, the later steps tell the rest.
"""

from hueward.bands import SAME, Band, caught_end, drop_column, is_round, led_alone, running_end
from hueward.bandsteps import step_on, tell
from hueward.spots import READ, each_of, value_at
from hueward.works import fetched, twin_of


class Outcomes:
    """The fates of the strikes of a spot ahead of a step: that of most of them, and the others by new values."""

    def __init__(self, most, others):
        self.most = most
        self.others = others


class Survey:
    """For some spots of a scene the steps that use them, the last one first, and what strikes ahead of each do."""

    def __init__(self, scene, spots):
        self.scene = scene
        self.told = {spot: [] for spot in spots}
        each = each_of(scene.struck_code)
        for step in reversed(range(0 if scene.bears_one else scene.many)):
            used = scene.used_at(step)
            for hue in range(len(scene.struck_code[0])):
                used[hue * each + each - 2] = READ
            for spot, word in used.items():
                if spot in self.told:
                    found = outcomes_at(self, spot, step) if word == READ else Outcomes(SAME, {})
                    self.told[spot].append((step, found))


def is_pointer(code, spot):
    """Whether a spot is a pointer."""
    return spot % each_of(code) == each_of(code) - 2


def is_slot(code, spot):
    """Whether a spot is a slot."""
    return spot % each_of(code) == each_of(code) - 1


def news_for(code, spot):
    """The list of the values with which a spot is struck, in their order."""
    if is_pointer(code, spot):
        return list(range(len(code[2]) + 1))
    if is_slot(code, spot):
        return [None] + list(range(code[1]))
    return list(range(code[1]))


def news_many(code, spot):
    """With how many values a spot is struck."""
    if is_pointer(code, spot):
        return len(code[2]) + 1
    return code[1] + int(is_slot(code, spot))


def outcomes_ahead(survey, spot, step):
    """The outcomes of strikes ahead of a step, all later ones being told; None if the spot is not surveyed."""
    if spot not in survey.told:
        return None
    rows = survey.told[spot]
    # The last of those that are not ahead of the step, as they descend.
    low = 0
    high = len(rows)
    while low < high:
        middle = (low + high) // 2
        if rows[middle][0] >= step:
            low = middle + 1
        else:
            high = middle
    if low == 0:
        return Outcomes(SAME, {})
    return rows[low - 1][1]


def packed(found):
    """The outcomes that a dict tells."""
    # The greatest values are often like most of the others.
    fates = list(found.values())
    most = fates[-1]
    if fates.count(most) == len(fates):
        return Outcomes(most, {})
    return Outcomes(most, {new: fate for new, fate in found.items() if fate != most})


def band_at(scene, step, spot, news):
    """The band of the runs struck at a spot ahead of a step."""
    works = twin_of(scene.works_ahead(step))
    right = len(works.shown)
    works.shown = []
    return Band(works, news, {spot: news}, right, True)


def outcomes_at(survey, spot, step):
    """The outcomes of strikes ahead of a step that reads the spot."""
    scene = survey.scene
    code = scene.struck_code
    if is_pointer(code, spot):
        return pointer_outcomes(scene, step)
    works = scene.works_ahead(step)
    cell = code[2][fetched(works)]
    if cell[0] == "mark" and len(code[0]) == 1 and spot in survey.told:
        return outcomes_ahead(survey, spot, step + 1)
    if cell[0] == "mark" and len(code[0]) > 1 or cell[0] in ("show", "turn") and cell[2] > 1:
        return few_outcomes(survey, spot, step)
    return packed(led(survey, band_at(scene, step, spot, news_for(code, spot))))


def few_outcomes(survey, spot, step):
    """The outcomes of strikes ahead of a settle of several hues, where all values that no other hue has are alike."""
    scene = survey.scene
    code = scene.struck_code
    each = each_of(code)
    works = scene.works_ahead(step)
    alike = {None: True} if is_slot(code, spot) else {}
    for hue in range(len(code[0])):
        other = hue * each + spot % each
        if other != spot:
            alike[value_at(code, works, other)] = True
    unlike = [new for new in range(len(alike) + 1) if new < code[1] and new not in alike]
    news = list(alike)
    if not unlike:
        return packed(led(survey, band_at(scene, step, spot, news)))
    found = led(survey, band_at(scene, step, spot, news + unlike[:1]))
    most = found[unlike[0]]
    return Outcomes(most, {new: found[new] for new in news if found[new] != most})


def pointer_outcomes(scene, step):
    """The outcomes of strikes at a pointer ahead of a step."""
    code = scene.struck_code
    ahead = scene.works_ahead(step)
    right = len(ahead.shown)
    hues = len(code[0])
    if hues > code[0][-1]:
        return Outcomes(SAME, {})
    if hues > 1:
        return Outcomes(caught_end(scene, right, step + 1), {ahead.heads[0]: SAME})
    found = {}
    for new in range(len(code[2]) + 1):
        found[new] = SAME
        if new != ahead.heads[0]:
            works = twin_of(ahead)
            works.heads = [new]
            works.shown = []
            found[new] = led_alone(scene, Band(works, [new], {}, right, False))
    return packed(found)


def led(survey, band):
    """The fates of the runs of a band: a dict from their new values."""
    scene = survey.scene
    found = {}
    waiting = [band]
    while waiting:
        band = waiting.pop()
        if not band.columns and not band.on_way:
            tell(found, band.news, led_alone(scene, band))
        elif band.works.done == scene.limit or not band.on_way and is_round(band):
            tell(found, band.news, running_end(scene, band.right))
        else:
            waiting.extend([part for part in step_on(scene, band, found) if goes_on(survey, part, found)])
    return found


def goes_on(survey, band, found):
    """Whether a band must be led on; otherwise the fates of its runs are told."""
    scene = survey.scene
    live = scene.live[band.works.heads[0]]
    for spot in list(band.columns):
        # What is never needed any more makes no difference.
        if not live >> spot & 1:
            drop_column(band, spot)
    if not band.on_way:
        return True
    if band.works.done == scene.many or not band.columns:
        tell(found, band.news, SAME)
        return False
    if band.is_fresh:
        band.is_fresh = False
        look_up(survey, band, found)
    return len(band.news) > 0


def look_up(survey, band, found):
    """Tells the fates of the runs that differ in one spot alone, if a band on its way has at most two columns."""
    spots = list(band.columns)
    if len(spots) > 2:
        return
    for spot in spots:
        outcomes = outcomes_ahead(survey, spot, band.works.done)
        if outcomes is None:
            continue
        if len(spots) == 1:
            tell_alone(band, band.columns[spot], outcomes, found)
            return
        other = spots[1] if spot == spots[0] else spots[0]
        values = band.columns[other]
        right = value_at(survey.scene.struck_code, band.works, other)
        if right in values:
            alone = [at for at, value in enumerate(values) if value == right]
            column = band.columns[spot]
            for at in alone:
                found[band.news[at]] = outcomes.others.get(column[at], outcomes.most)
            keep_others(band, alone)


def tell_alone(band, column, outcomes, found):
    """Tells the fates of all runs of a band, which differ in a single column."""
    if outcomes.others:
        others = outcomes.others
        found.update({new: others.get(value, outcomes.most) for new, value in zip(band.news, column)})
    else:
        tell(found, band.news, outcomes.most)
    band.news = []


def keep_others(band, gone):
    """Takes the runs with these ascending indexes out of a band."""
    out = {at: True for at in gone}
    kept = [at for at in range(len(band.news)) if at not in out]
    band.news = [band.news[at] for at in kept]
    band.columns = {spot: [column[at] for at in kept] for spot, column in band.columns.items()}
