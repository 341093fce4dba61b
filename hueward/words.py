"""The words of two operands, and what they are worth."""

WORDS = ("plus", "minus", "times", "rest", "less", "same")


def worth(word, one, other, size):
    """The value of a word and its two operands, which are numbers below the size."""
    if word == "plus":
        return (one + other) % size
    if word == "minus":
        return (one - other) % size
    if word == "times":
        return one * other % size
    if word == "rest":
        if other == 0:
            return 0
        return one % other
    if word == "less":
        return int(one < other)
    return int(one == other)


def worths(word, ones, others, size):
    """The list of the values of a word and two operands each, which are numbers below the size."""
    if word == "plus":
        return [(one + other) % size for one, other in zip(ones, others)]
    if word == "minus":
        return [(one - other) % size for one, other in zip(ones, others)]
    if word == "times":
        return [one * other % size for one, other in zip(ones, others)]
    if word == "rest":
        return [one % other if other else 0 for one, other in zip(ones, others)]
    if word == "less":
        return [int(one < other) for one, other in zip(ones, others)]
    return [int(one == other) for one, other in zip(ones, others)]
