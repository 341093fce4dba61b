"""The texts of programs."""

from hueward.errors import BadText
from hueward.programs import check_place, check_program
from hueward.reading import Reader, read_program
from hueward.tokens import tokens_of
from hueward.writing import written


def program_text(program):
    """The text of a program."""
    check_program(program)
    return "\n".join(written(program)[0])


def spot_of(program, place):
    """The pair (line, column) where the node at a place begins in the program's text."""
    check_program(program)
    check_place(program, place)
    part, at = place
    return written(program)[1][part][at]


def program_of(text):
    """The program that a text tells."""
    if not isinstance(text, str):
        raise BadText(1, 1)
    return read_program(Reader(tokens_of(text), False))


def completed(text):
    """A program whose text begins with the right tokens of a text."""
    if not isinstance(text, str):
        raise BadText(1, 1)
    return read_program(Reader(tokens_of(text), True))
