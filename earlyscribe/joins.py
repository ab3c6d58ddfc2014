"""One behind the other: the plain scribe that writes what one scribe makes of what another one writes."""

from earlyscribe.scribes import (
    BEGINS, ENDS, ROOMS, SIGNS, STEPS, read_from, refuse_choices, refuse_many_pairs, steps_by_start)
from earlyscribe.trims import INTO, OUT_OF, places_at, trimmed_of

# A room of the joined scribe is a pair of rooms, one of each scribe, until it gets its number.


def joined_begins(one, other):
    """The begin's word of the first scribe, read by the second one, as a list of one begin or none."""
    if one[BEGINS] == [] or other[BEGINS] == []:
        return []
    begin = one[BEGINS][0]
    opening = other[BEGINS][0]
    read = read_from(steps_by_start(other), opening[0], begin[1])
    if read is None:
        return []
    return [((begin[0], read[0]), opening[1] + read[1])]


def joined_steps(steps, reader, pair):
    """Steps out of a pair of rooms: those out of its first room whose words the second scribe can read."""
    joined = []
    for step in steps:
        read = read_from(reader, pair[1], step[2])
        if read is not None:
            joined.append((pair, step[1], read[1], (step[INTO], read[0])))
    return joined


def joined_steps_by_pair(one, other, begins):
    """For each pair of rooms that begins lead to, the steps out of it."""
    places = places_at(one[STEPS], OUT_OF)
    reader = steps_by_start(other)
    found = {}
    # Other pairs are left alone, for what is written at their steps may have very many letters.
    front = [pair for pair, word in begins]
    while front != []:
        behind = []
        for pair in front:
            if pair not in found:
                steps = [one[STEPS][place] for place in places.get(pair[0], [])]
                found[pair] = joined_steps(steps, reader, pair)
                behind.extend([step[INTO] for step in found[pair]])
        front = behind
    return found


def joined_ends(one, other, pairs):
    """The ends of pairs of rooms: those of the first room whose words lead the second scribe to an end."""
    last_words = dict(one[ENDS])
    other_last_words = dict(other[ENDS])
    reader = steps_by_start(other)
    joined = []
    for pair in pairs:
        if pair[0] in last_words:
            read = read_from(reader, pair[1], last_words[pair[0]])
            if read is not None and read[0] in other_last_words:
                joined.append((pair, read[1] + other_last_words[read[0]]))
    return joined


def joined_behind(one, other):
    """A plain scribe that writes for a text what the second scribe writes for what the first one writes for it."""
    refuse_choices(one)
    refuse_choices(other)
    refuse_many_pairs(one, other)
    begins = joined_begins(one, other)
    steps_by_pair = joined_steps_by_pair(one, other, begins)
    steps = []
    for pair in steps_by_pair:
        steps.extend(steps_by_pair[pair])
    ends = joined_ends(one, other, list(steps_by_pair))
    # With the trimming the pairs get their numbers.
    return trimmed_of((one[SIGNS], one[ROOMS] * other[ROOMS], begins, steps, ends))
