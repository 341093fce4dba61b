"""All errors of the package, directly below HueError."""


class HueError(ValueError):
    """Any error of this package."""


class BadProgram(HueError):
    """A value that is no program."""


class BadInputs(HueError):
    """A value that is no list of inputs."""


class BadVotes(HueError):
    """A value that is no tuple of votes."""


class BadCode(HueError):
    """A value that is no code, or none of the kind that is asked for."""


class BadSteps(HueError):
    """A value that is no count of steps."""


class BadHue(HueError):
    """A value that is the number of no hue of the code."""


class BadAddress(HueError):
    """A value that is no address of the kind that is asked for."""


class BadNumber(HueError):
    """A value that is no number of the program or code."""


class BadPaper(HueError):
    """A value that is no paper for the code."""


class BadPlace(HueError):
    """A value that is no place of the kind that is asked for."""


class BadNode(HueError):
    """A value that fits nowhere as the node that it should be."""


class BadTable(HueError):
    """A value that is no table of names, or makes no program."""


class BadSize(HueError):
    """A value that is no size, or too small for the program."""


class BadLength(HueError):
    """A value that is no length."""


class BadArray(HueError):
    """A value that is the name of no array of the program."""


class BadName(HueError):
    """A value that is no name of the kind that is asked for."""


class BadIndex(HueError):
    """A value that is no index of the array."""


class BadNew(HueError):
    """A value that does not fit to the place that is struck."""


class BadOrder(HueError):
    """A value that is no sequence of the hues."""


class TooLarge(HueError):
    """A result that would be larger than a code may be."""


class BadOther(HueError):
    """A value that is no other code that fits to the first one."""


class BadWish(HueError):
    """A value that is no count of hues that can be wished."""


class BadSlots(HueError):
    """A value that is no list of slots."""


class BadMost(HueError):
    """A value that is no greatest count of hues."""


class BadCheckpoint(HueError):
    """A value that is no checkpoint of the code."""


class BadMany(HueError):
    """A value that is no count of strikes."""


class NotEven(HueError):
    """A code that is not even."""


class BadLabels(HueError):
    """A value that is no ascending list of labels of the code."""


class TooMany(HueError):
    """A code with too many labels."""


class BadThing(HueError):
    """A value that is no thing of the program."""


class BadHues(HueError):
    """A value that is no count of hues."""


class BadWishes(HueError):
    """A value that is no dict of wishes."""


class BadWidths(HueError):
    """A value that is no dict of widths, or no fit one."""


class BadStruck(HueError):
    """A value that is no ascending list of hues."""


class BadStep(HueError):
    """A value that is the number of no step of the run."""


class BadRank(HueError):
    """A value that is the rank of no schedule."""


class NotSchedule(HueError):
    """A value that is no schedule of the code."""


class Ended(HueError):
    """A deed for which the machine would have to be running."""


class Full(HueError):
    """A deed with which too many strikes would stand."""


class NotCaught(HueError):
    """A question that has an answer only where a run is caught."""


class NothingDone(HueError):
    """Nothing is done that could be undone."""


class BadMoment(HueError):
    """A value that is no moment of the bench."""


class NoPart(HueError):
    """A value that is the name of no part of the program."""

    def __init__(self, part):
        self.part = part


class BadText(HueError):
    """A text that tells no program: where its first wrong token begins."""

    def __init__(self, line, column):
        self.line = line
        self.column = column


class BadStrikes(HueError):
    """A value that is no list of strikes: the index of the first item that is none."""

    def __init__(self, at):
        self.at = at


class BadCodeText(HueError):
    """A text that tells no code: the index of its first wrong line."""

    def __init__(self, line):
        self.line = line


class NoPaper(HueError):
    """A code that no paper shows: where this came out."""

    def __init__(self, address):
        self.address = address


class OffLabels(HueError):
    """A run that leaves a stretch ahead of its end: the step that does."""

    def __init__(self, step):
        self.step = step


class BadStrikesText(HueError):
    """A text that tells no strikes: the index of its first wrong line."""

    def __init__(self, line):
        self.line = line


class NotShown(HueError):
    """A paper that does not show the code: the first doubt."""

    def __init__(self, doubt):
        self.doubt = doubt


class Unclear(HueError):
    """Sights of which not just one fits: how many do."""

    def __init__(self, many):
        self.many = many


class NotKept(HueError):
    """A value by which no moment is kept."""

    def __init__(self, name):
        self.name = name
