"""The tokens of texts of programs.

A token is a tuple (line, column, indent, word). Its indent is None unless it
is the first one of its line. The word of the end of a line is a newline, that
of the end of the text is empty.
"""

WORD_SIGNS = "abcdefghijklmnopqrstuvwxyzABCDEFGHIJKLMNOPQRSTUVWXYZ0123456789_"
BLANK = " "
REMARK = "#"
LINE_END = "\n"
TEXT_END = ""


def word_behind(text, at):
    """The word or single sign that begins at an index of a text."""
    end = at
    while end < len(text) and text[end] in WORD_SIGNS:
        end += 1
    return text[at:max(end, at + 1)]


def words_of(text):
    """The pairs of the index and the word of each word or sign of a line."""
    found = []
    at = 0
    while at < len(text):
        if text[at] == BLANK:
            at += 1
        else:
            word = word_behind(text, at)
            found.append((at, word))
            at += len(word)
    return found


def tokens_of_line(line, text):
    """The tokens of the line with this number; none if it has no words."""
    words = words_of(text.partition(REMARK)[0])
    if not words:
        return []
    first, word = words[0]
    found = [(line, first + 1, first, word)]
    for at, other in words[1:]:
        found.append((line, at + 1, None, other))
    last, word = words[-1]
    found.append((line, last + len(word) + 1, None, LINE_END))
    return found


def tokens_of(text):
    """All tokens of a text, its end the last one."""
    found = []
    for at, line in enumerate(text.split("\n")):
        found.extend(tokens_of_line(at + 1, line))
    found.append((text.count("\n") + 2, 1, None, TEXT_END))
    return found
