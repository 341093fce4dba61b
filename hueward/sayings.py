"""The forms of the lines that are said at a desk."""

from hueward.cells import MOST_HUES
from hueward.checks import MOST_INPUTS
from hueward.programs import is_name
from hueward.striketexts import is_whole_word, struck_of, wholes_of

# What stands behind the word of a line: nothing, a whole or a name.
NOTHING = ("undo", "row", "state", "strikes", "struck", "verdict", "sights", "code", "kept")
WITH_WHOLE = ("go", "lead", "fits", "blames")
WITH_NAME = ("keep", "back")


def short_form(words):
    """The tuple of a word and what stands behind it, which is nothing, a whole or a name; None if that has no form."""
    word = words[0]
    if word in NOTHING and len(words) == 1:
        return (word,)
    if word in WITH_WHOLE and len(words) == 2 and is_whole_word(words[1]):
        return (word, int(words[1]))
    if word in WITH_NAME and len(words) == 2 and is_name(words[1]):
        return (word, words[1])
    return None


def line_form(words):
    """What a line without a text says: a tuple of its word and what stands behind it; None if it has no form."""
    if words[0] == "begin":
        wholes = wholes_of(words[1:])
        if wholes is None or len(wholes) > MOST_INPUTS:
            return None
        return ("begin", wholes)
    if words[0] == "strike":
        found = struck_of(words[1:])
        return None if found is None else ("strike",) + found
    return short_form(words)


def text_form(words, text):
    """What a line with a text behind it says; None if it has no form."""
    if words == ["load"]:
        return ("load", text)
    votes = wholes_of(words[1:])
    if words[0] != "read" or votes is None or not 1 <= len(votes) <= MOST_HUES:
        return None
    return ("read", tuple(votes), text)


def form_of(line):
    """What any value says at a desk: a tuple of a word and what stands behind it; None if it has no form."""
    if not isinstance(line, str):
        return None
    head, mark, text = line.partition("\n")
    if mark:
        return text_form(head.split(" "), text)
    return line_form(head.split(" "))
