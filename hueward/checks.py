"""Checks of the values that functions of several modules take."""

from hueward.errors import BadInputs, BadNumber, BadSteps

MOST_INPUTS = 400
GREATEST_INPUT = 9999
MOST_STEPS = 1000000


def is_from(value, low):
    """Whether a value is a whole from low on."""
    if isinstance(value, bool) or not isinstance(value, int):
        return False
    return value >= low


def is_within(value, low, high):
    """Whether a value is a whole from low to high."""
    return is_from(value, low) and value <= high


def check_inputs(inputs):
    """BadInputs unless these are inputs."""
    if not isinstance(inputs, (list, tuple)):
        raise BadInputs("inputs are a list")
    if len(inputs) > MOST_INPUTS:
        raise BadInputs(f"inputs are at most {MOST_INPUTS} wholes")
    for number in inputs:
        if not is_within(number, 0, GREATEST_INPUT):
            raise BadInputs(f"an input is a whole from 0 to {GREATEST_INPUT}")


def check_steps(steps):
    """BadSteps unless this is a count of steps."""
    if not is_within(steps, 0, MOST_STEPS):
        raise BadSteps(f"steps are a whole from 0 to {MOST_STEPS}")


def check_number(number, size):
    """BadNumber unless this is a number below the size."""
    if not is_within(number, 0, size - 1):
        raise BadNumber(f"a number is a whole from 0 to {size - 1}")
