"""Written down: a scribe as a text of rows, and the scribe that such a text tells of."""

from earlyscribe.errors import NoText
from earlyscribe.scribes import BEGINS, ENDS, MOST_ROOMS, ROOMS, SIGNS, STEPS, is_scribe

EMPTY_WORD = "-"


def shown_word(word):
    """A word as it is written down."""
    return EMPTY_WORD if word == "" else word


def shown_mark(kind, mark):
    """The row of a begin or of an end."""
    return " ".join([kind, str(mark[0]), shown_word(mark[1])])


def shown_step(step):
    """The row of a step."""
    return " ".join(["step", str(step[0]), step[1], shown_word(step[2]), str(step[3])])


def shown_scribe(scribe):
    """A scribe as a text: its signs and its number of rooms, and a row for each begin, step and end."""
    rows = [" ".join([scribe[SIGNS], str(scribe[ROOMS])])]
    rows.extend([shown_mark("begin", mark) for mark in scribe[BEGINS]])
    rows.extend([shown_step(step) for step in scribe[STEPS]])
    rows.extend([shown_mark("end", mark) for mark in scribe[ENDS]])
    return "\n".join(rows)


def read_parts(row, count):
    """The parts of a row that has so many."""
    parts = row.split(" ")
    if len(parts) != count:
        raise NoText("a row has too few or too many parts")
    return parts


def read_number(figures):
    """The number that figures tell."""
    # A greater number has more figures than the most rooms, or needless noughts.
    if not 1 <= len(figures) <= len(str(MOST_ROOMS)):
        raise NoText("a number has too few or too many figures")
    if not all([figure in "0123456789" for figure in figures]):
        raise NoText("a number has signs that are no figures")
    return int(figures)


def read_word(shown):
    """The word that was so written down."""
    return "" if shown == EMPTY_WORD else shown


def read_mark(row):
    """The begin or the end of a row."""
    parts = read_parts(row, 3)
    return (read_number(parts[1]), read_word(parts[2]))


def read_step(row):
    """The step of a row."""
    parts = read_parts(row, 5)
    return (read_number(parts[1]), parts[2], read_word(parts[3]), read_number(parts[4]))


def read_rows(rows):
    """What the rows tell, the first one of signs and rooms, and the others of begins, steps and ends in any order."""
    first = read_parts(rows[0], 2)
    begins = []
    steps = []
    ends = []
    for row in rows[1:]:
        if row.startswith("begin "):
            begins.append(read_mark(row))
        elif row.startswith("step "):
            steps.append(read_step(row))
        else:
            ends.append(read_mark(row))
    return (first[0], read_number(first[1]), begins, steps, ends)


def read_scribe(text):
    """The scribe that a text tells of."""
    told = read_rows(text.split("\n"))
    # Whatever else may be amiss, as needless noughts and rows out of order, isn't as the scribe would be shown.
    if not is_scribe(told) or shown_scribe(told) != text:
        raise NoText("the text isn't a scribe as it is written down")
    return told
