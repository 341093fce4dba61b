"""Bands: struck runs that differ in a few spots, led along together.

A band has works, those of one run, and for each spot in which another run of
it may differ a column: the list of what all of them have there. As long as
the works are those of the unstruck run, the band is on its way.

The fate of a struck run is a whole: SAME, OTHER or WRONG, and for one that is
caught how many steps it had done.
"""

from hueward.spots import put_value, value_at
from hueward.works import do_step, twin_of

SAME = 0
OTHER = -1
WRONG = -2


class Band:
    """Struck runs: their works and columns, the new values they were struck with, and how many items they have right.

    A run with more items than the unstruck one has one right more than that.
    A band is fresh if its columns are other ones than when they were looked at.
    """

    def __init__(self, works, news, columns, right, on_way):
        self.works = works
        self.news = news
        self.columns = columns
        self.right = right
        self.on_way = on_way
        self.is_fresh = True
        self.old = None
        self.due = works.done


def caught_end(scene, right, done):
    """The fate of a run that is caught behind so many steps."""
    if right > len(scene.right_row):
        return WRONG
    if right == len(scene.right_row) and scene.word == "caught":
        return SAME
    return done


def running_end(scene, right):
    """The fate of a run that still runs at the last step."""
    if right == len(scene.right_row) and scene.word == "running":
        return SAME
    return OTHER


def stopped_end(scene, right):
    """The fate of a run that comes to a stop behind so many right items."""
    if right < len(scene.right_row) and scene.right_row[right] == ("stop",):
        return SAME
    return WRONG


def is_right_item(scene, right, item):
    """Whether an item may come behind so many right ones."""
    return right >= len(scene.right_row) or scene.right_row[right] == item


def one_more(scene, right):
    """How many items are right behind one more."""
    return min(right + 1, len(scene.right_row) + 1)


def is_same_state(one, other):
    """Whether two works of one code go on in the same way."""
    if one.heads != other.heads or one.taken != other.taken or one.offers != other.offers:
        return False
    return one.numbers == other.numbers and one.banks == other.banks


def is_round(band):
    """Whether a band is as it was some steps ago, so that it goes on like this for ever."""
    old = band.old
    if old is not None and is_same_state(band.works, old.works):
        return band.right == old.right and band.columns == old.columns
    if band.works.done >= band.due:
        band.old = Band(twin_of(band.works), [], dict(band.columns), band.right, False)
        band.due = 2 * band.works.done + 1
    return False


def key_of(scene, band):
    """All that tells how the runs of a band without columns go on."""
    works = band.works
    at = works.heads[0]
    values = tuple([value_at(scene.struck_code, works, spot) for spot in scene.live_at(at)])
    return (works.done, at, works.taken, band.right, values)


def led_alone(scene, band):
    """The fate of the runs of a band without columns."""
    works = band.works
    passed = []
    fate = None
    while fate is None and works.done < scene.limit:
        before = works.heads[0]
        do_step(works)
        if works.word == "caught":
            fate = caught_end(scene, band.right, works.done)
        elif works.word == "stopped":
            fate = stopped_end(scene, band.right)
        elif works.shown and not is_right_item(scene, band.right, works.shown[0]):
            fate = WRONG
        elif works.shown:
            works.shown = []
            band.right = one_more(scene, band.right)
        elif works.heads[0] != before + 1:
            # Whatever goes round, and most of what comes to be alike, does so where it goes elsewhere.
            key = key_of(scene, band)
            fate = scene.fates.get(key)
            passed.append(key)
            if fate is None and is_round(band):
                fate = running_end(scene, band.right)
    if fate is None:
        fate = running_end(scene, band.right)
    scene.fates.update({key: fate for key in passed})
    return fate


def column_of(scene, band, spot):
    """The list of what the runs of a band have at a spot."""
    if spot in band.columns:
        return band.columns[spot]
    return [value_at(scene.struck_code, band.works, spot)] * len(band.news)


def put_column(scene, band, spot, column):
    """Gives a spot a column, if any run differs from the works there; None says that none does."""
    if column is not None:
        value = value_at(scene.struck_code, band.works, spot)
        if column.count(value) < len(column):
            band.columns[spot] = column
            band.is_fresh = True
            return
    drop_column(band, spot)


def drop_column(band, spot):
    """Takes a column, if there is one, out of a band."""
    if spot in band.columns:
        del band.columns[spot]
        band.is_fresh = True


def part_of(scene, band, works, chosen):
    """The band of the runs of another one with these indexes, and with works; it is not on its way."""
    columns = {spot: [column[at] for at in chosen] for spot, column in band.columns.items()}
    part = Band(works, [band.news[at] for at in chosen], {}, band.right, False)
    for spot, column in columns.items():
        put_column(scene, part, spot, column)
    return part


def indexes_by(keys):
    """A dict from keys to the lists of their indexes."""
    found = {}
    for at, key in enumerate(keys):
        found.setdefault(key, []).append(at)
    return found


def works_as(scene, band, at):
    """Works that are those of the run of a band with this index."""
    works = twin_of(band.works)
    for spot, column in band.columns.items():
        put_value(scene.struck_code, works, spot, column[at])
    return works
