"""Rooms that are of use: which ones some way comes through, and the scribe of these alone."""

from earlyscribe.errors import NoRoom
from earlyscribe.scribes import BEGINS, ENDS, ROOMS, SIGNS, STEPS

# Where the two rooms of a step stand in its tuple.
OUT_OF = 0
INTO = 3


def places_at(steps, side):
    """The places of the steps that have each room at one of their two sides."""
    found = {}
    for place, step in enumerate(steps):
        found.setdefault(step[side], []).append(place)
    return found


def traces_from(marks, steps, near, far):
    """How rooms are come to from those of begins or ends, taking each step from its near side to its far one.

    The rooms stand in the order in which they are come to. Each has the place of the mark that it is come to from, and
    the place of the last step taken, or None where it is the mark's own room.
    """
    traces = {}
    for place, mark in enumerate(marks):
        if mark[0] not in traces:
            traces[mark[0]] = (place, None)
    places = places_at(steps, near)
    front = list(traces)
    while front != []:
        behind = []
        for room in front:
            for place in places.get(room, []):
                other = steps[place][far]
                if other not in traces:
                    traces[other] = (traces[room][0], place)
                    behind.append(other)
        front = behind
    return traces


def traces_from_begins(scribe):
    """How each room that can be come to from a begin is come to."""
    return traces_from(scribe[BEGINS], scribe[STEPS], OUT_OF, INTO)


def traces_to_ends(scribe):
    """How an end is come to from each room from which one can be."""
    return traces_from(scribe[ENDS], scribe[STEPS], INTO, OUT_OF)


def trail_of(room, traces, steps, near):
    """The places of the steps between a room and its mark, the one at the room first."""
    trail = []
    place = traces[room][1]
    while place is not None:
        trail.append(place)
        place = traces[steps[place][near]][1]
    return trail


def useful_rooms(scribe):
    """The rooms of a scribe that some way comes through, ascending."""
    leading_on = traces_to_ends(scribe)
    return sorted([room for room in traces_from_begins(scribe) if room in leading_on])


def way_through(scribe, room):
    """A way of a scribe that comes through a room, or None where there is none."""
    if not 0 <= room < scribe[ROOMS]:
        raise NoRoom("the scribe has no room of this number")
    ahead = traces_from_begins(scribe)
    behind = traces_to_ends(scribe)
    if room not in ahead or room not in behind:
        return None
    to_room = trail_of(room, ahead, scribe[STEPS], OUT_OF)
    from_room = trail_of(room, behind, scribe[STEPS], INTO)
    return (ahead[room][0], list(reversed(to_room)) + from_room, behind[room][0])


def marks_kept(marks, numbers):
    """The begins or ends whose room has a new number, with this number."""
    return [(numbers[room], word) for room, word in marks if room in numbers]


def steps_kept(steps, numbers):
    """The steps both of whose rooms have a new number, with these numbers."""
    kept = [step for step in steps if step[OUT_OF] in numbers and step[INTO] in numbers]
    return [(numbers[start], sign, word, numbers[goal]) for start, sign, word, goal in kept]


def trimmed_of(scribe):
    """The scribe of a scribe's rooms of use alone."""
    numbers = {}
    for room in useful_rooms(scribe):
        numbers[room] = len(numbers)
    begins = marks_kept(scribe[BEGINS], numbers)
    steps = steps_kept(scribe[STEPS], numbers)
    ends = marks_kept(scribe[ENDS], numbers)
    return (scribe[SIGNS], len(numbers), begins, steps, ends)
