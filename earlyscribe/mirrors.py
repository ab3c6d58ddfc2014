"""From the end, both, and some texts alone: scribes made of the parts of others."""

from earlyscribe.errors import TooMany
from earlyscribe.forms import each_once
from earlyscribe.scribes import (
    BEGINS, ENDS, MOST_ROOMS, ROOMS, SIGNS, STEPS, refuse_many_pairs, refuse_other_signs)


def turned(word):
    """A word with its letters in the turn from the last to the first."""
    return word[::-1]


def mirrored(scribe):
    """The scribe that reads and writes from the end."""
    begins = [(room, turned(word)) for room, word in scribe[ENDS]]
    steps = [(goal, sign, turned(word), start) for start, sign, word, goal in scribe[STEPS]]
    ends = [(room, turned(word)) for room, word in scribe[BEGINS]]
    return (scribe[SIGNS], scribe[ROOMS], begins, steps, ends)


def either_of(one, other):
    """The scribe that writes for each text what one writes and what the other writes."""
    refuse_other_signs(one, other)
    more = one[ROOMS]
    if more + other[ROOMS] > MOST_ROOMS:
        raise TooMany("the two scribes have too many rooms together")
    begins = one[BEGINS] + [(room + more, word) for room, word in other[BEGINS]]
    steps = one[STEPS] + [(start + more, sign, word, goal + more) for start, sign, word, goal in other[STEPS]]
    ends = one[ENDS] + [(room + more, word) for room, word in other[ENDS]]
    return (one[SIGNS], more + other[ROOMS], begins, steps, ends)


def kept_marks(marks, others, count):
    """The begins or ends of pairs of rooms: each of the first scribe's with each room of the second one's."""
    rooms = each_once([room for room, word in others])
    kept = []
    for room, word in marks:
        kept.extend([(room * count + other, word) for other in rooms])
    return kept


def moves_by_sign(steps):
    """The pairs of rooms that steps with each sign lead out of and into, each once."""
    moves = {}
    for start, sign, goal in each_once([(step[0], step[1], step[3]) for step in steps]):
        moves.setdefault(sign, []).append((start, goal))
    return moves


def kept_steps(steps, others, count):
    """The steps of pairs of rooms: each of the first scribe's with each of the second one's that reads the same."""
    moves = moves_by_sign(others)
    kept = []
    for start, sign, word, goal in steps:
        for out_of, into in moves.get(sign, []):
            kept.append((start * count + out_of, sign, word, goal * count + into))
    return kept


def kept_to(scribe, other):
    """The scribe that writes what the first one writes, for the texts alone for which the second one writes some word.

    The second one's words are left out, so of its parts that are unlike in words alone the first one is taken. Then no
    tuple comes twice.
    """
    refuse_other_signs(scribe, other)
    refuse_many_pairs(scribe, other)
    count = other[ROOMS]
    begins = kept_marks(scribe[BEGINS], other[BEGINS], count)
    steps = kept_steps(scribe[STEPS], other[STEPS], count)
    ends = kept_marks(scribe[ENDS], other[ENDS], count)
    return (scribe[SIGNS], scribe[ROOMS] * count, begins, steps, ends)
