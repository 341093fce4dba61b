"""The texts of strikes."""

from hueward.codes import MOST_STRIKES, check_code, check_strikes, is_strike
from hueward.codetexts import line_of
from hueward.errors import BadStrikesText
from hueward.words import WORDS

DIGITS = "0123456789"
MOST_DIGITS = 30
EMPTY_SLOT = "-"
# How many wholes stand behind the words of instructions; those of two operands have three.
WHOLES_BEHIND = {"set": 2, "get": 4, "put": 4, "offer": 1}


def line_of_strike(strike):
    """The line of a strike."""
    step, hue, place, new = strike
    if place[0] == "code":
        return line_of((step, hue) + place + new[1:])
    if new is None:
        return line_of((step, hue) + place + (EMPTY_SLOT,))
    return line_of((step, hue) + place + (new,))


def text_of_strikes(strikes):
    """The text of strikes."""
    return "\n".join([line_of_strike(strike) for strike in strikes])


def strikes_text(code, strikes):
    """The text of the strikes."""
    check_code(code)
    check_strikes(code, strikes)
    return text_of_strikes(strikes)


def is_whole_word(word):
    """Whether a word writes a whole, without zeros ahead."""
    if not 1 <= len(word) <= MOST_DIGITS or not all([sign in DIGITS for sign in word]):
        return False
    return word == "0" or not word.startswith("0")


def wholes_of(words):
    """The list of the wholes that words write; None if one writes none."""
    if not all([is_whole_word(word) for word in words]):
        return None
    return [int(word) for word in words]


def instruction_of(hue, words):
    """The instruction of a hue that these words write behind its hue; None if there is none."""
    if not words:
        return None
    many = 3 if words[0] in WORDS else WHOLES_BEHIND.get(words[0], 0)
    wholes = wholes_of(words[1:])
    if many == 0 or wholes is None or len(wholes) != many:
        return None
    return (hue, words[0]) + tuple(wholes)


def struck_of(words):
    """The hue, the place and what is set there, that the words of a strike write; None if they have no form."""
    if len(words) < 3 or not is_whole_word(words[0]):
        return None
    hue = int(words[0])
    kind = words[1]
    if kind == "slot" and words[2:] == [EMPTY_SLOT]:
        return (hue, (kind,), None)
    if kind == "code" and is_whole_word(words[2]):
        new = instruction_of(hue, words[3:])
        return None if new is None else (hue, (kind, int(words[2])), new)
    wholes = wholes_of(words[2:])
    if wholes is None:
        return None
    if kind in ("slot", "pointer") and len(wholes) == 1:
        return (hue, (kind,), wholes[0])
    if kind in ("register", "cell") and len(wholes) == 2:
        return (hue, (kind, wholes[0]), wholes[1])
    return None


def strike_of_line(line):
    """What may be the strike that a line writes; None if it has no form."""
    words = line.split(" ")
    found = struck_of(words[1:])
    if found is None or not is_whole_word(words[0]):
        return None
    return (int(words[0]),) + found


def strikes_of(code, text):
    """The strikes that a text tells."""
    check_code(code)
    if not isinstance(text, str):
        raise BadStrikesText(None)
    if text == "":
        return []
    found = []
    last = 0
    for at, line in enumerate(text.split("\n")):
        strike = strike_of_line(line)
        if not is_strike(code, strike) or strike[0] < last or at >= MOST_STRIKES:
            raise BadStrikesText(at)
        last = strike[0]
        found.append(strike)
    return found
