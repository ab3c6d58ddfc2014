"""Two passes: the first way that reads a text, and two plain scribes that find it, the first one from the end."""

from earlyscribe.choices import refuse_many_rooms
from earlyscribe.errors import TooMany
from earlyscribe.forms import each_once, numbered_of
from earlyscribe.scribes import BEGINS, ENDS, MOST_ROOMS, ROOMS, SIGNS, STEPS
from earlyscribe.trims import INTO, OUT_OF, traces_from_begins

LETTERS = "abcdefghijklmnopqrstuvwxyz"


def starts_by_goal(scribe):
    """For each room and sign the rooms out of which steps with the sign lead there."""
    found = {}
    for start, sign, goal in each_once([(step[0], step[1], step[3]) for step in scribe[STEPS]]):
        found.setdefault((goal, sign), []).append(start)
    return found


def rooms_ahead(rooms, sign, starts):
    """The rooms out of which a step with a sign leads into one of some rooms, ascending."""
    found = {}
    for room in rooms:
        for start in starts.get((room, sign), []):
            found[start] = True
    return sorted(found)


def rooms_with_ends(scribe):
    """The rooms that have an end, ascending."""
    return sorted(set([room for room, word in scribe[ENDS]]))


def rooms_that_lead_on(scribe, text):
    """For each place in a text, and for its end, the rooms from which what stands there and behind leads to an end."""
    starts = starts_by_goal(scribe)
    rooms = rooms_with_ends(scribe)
    found = [rooms]
    for sign in reversed(text):
        rooms = rooms_ahead(rooms, sign, starts)
        found.append(rooms)
    return list(reversed(found))


def first_mark(marks, rooms):
    """The least place of a begin or an end that is of one of some rooms, or None."""
    for place, mark in enumerate(marks):
        if mark[0] in rooms:
            return place
    return None


def places_by_start(steps):
    """The places of the steps that go out of each room with each sign, ascending."""
    found = {}
    for place, step in enumerate(steps):
        found.setdefault((step[0], step[1]), []).append(place)
    return found


def first_step_into(rooms, places, steps):
    """The first one of some places at which a step leads into one of some rooms, or None."""
    for place in places:
        if steps[place][INTO] in rooms:
            return place
    return None


def first_way(scribe, text):
    """The first one of a scribe's ways that read a text, or None where there is none."""
    leading_on = rooms_that_lead_on(scribe, text)
    begin = first_mark(scribe[BEGINS], leading_on[0])
    if begin is None:
        return None
    room = scribe[BEGINS][begin][0]
    places = places_by_start(scribe[STEPS])
    row = []
    # The rooms that don't lead on are left aside, so the least step is always one with which a way goes on.
    for sign, rooms in zip(text, leading_on[1:]):
        place = first_step_into(rooms, places[(room, sign)], scribe[STEPS])
        row.append(place)
        room = scribe[STEPS][place][INTO]
    return (begin, row, first_mark(scribe[ENDS], [room]))


def letters_for(count, signs):
    """Letters that aren't signs, as many as are asked for."""
    free = [letter for letter in LETTERS if letter not in signs]
    if count > len(free):
        raise TooMany("there are more sets of rooms than letters that aren't signs")
    return free[:count]


def sets_and_moves(scribe):
    """The sets of rooms in the order in which they are come to from the end, and tuples (set, sign, set) of numbers."""
    starts = starts_by_goal(scribe)
    sets = []
    if scribe[ENDS] != []:
        sets.append(rooms_with_ends(scribe))
    moves = []
    done = 0
    while done < len(sets):
        # Refused as soon as letters lack, ahead of a multitude of sets.
        letters_for(len(sets), scribe[SIGNS])
        for sign in scribe[SIGNS]:
            rooms = rooms_ahead(sets[done], sign, starts)
            if rooms != [] and rooms not in sets:
                sets.append(rooms)
            if rooms != []:
                moves.append((done, sign, sets.index(rooms)))
        done = done + 1
    return (sets, moves)


def back_of(scribe, sets, moves, letters):
    """The plain scribe that reads from the end and writes which rooms lead on, a letter for each set of them."""
    steps = [(start, sign, letters[start] + sign, goal) for start, sign, goal in moves]
    ends = []
    for number, rooms in enumerate(sets):
        if first_mark(scribe[BEGINS], rooms) is not None:
            ends.append((number, letters[number]))
    return (scribe[SIGNS], len(sets), [(0, "")], steps, ends)


# A room of the scribe that reads the sets' letters is a tuple, until it gets its number: the empty one is the first
# room, (room,) stands for a room of the scribe with choices, and (room, sign) for a sign read there.


def steps_from_first(scribe, sets, letters):
    """The steps out of the first room: with a set's letter to the room of the first begin in the set."""
    steps = []
    for rooms, letter in zip(sets, letters):
        place = first_mark(scribe[BEGINS], rooms)
        if place is not None:
            begin = scribe[BEGINS][place]
            steps.append(((), letter, begin[1], (begin[0],)))
    return steps


def steps_in_two(step, sets, letters):
    """A step taken in two, the sign and then the letter of a set that the step leads into, for each such set."""
    behind = (step[OUT_OF], step[1])
    steps = []
    for rooms, letter in zip(sets, letters):
        if step[INTO] in rooms:
            steps.append(((step[OUT_OF],), step[1], "", behind))
            steps.append((behind, letter, step[2], (step[INTO],)))
    return steps


def unlike_steps(scribe):
    """The steps of a scribe, in their order; of those that are unlike in words alone the first one."""
    found = {}
    for step in scribe[STEPS]:
        found.setdefault((step[0], step[1], step[3]), step)
    return list(found.values())


def all_forth_steps(scribe, sets, letters):
    """The steps that read sets' letters and signs, whether their rooms can be come to or not."""
    steps = steps_from_first(scribe, sets, letters)
    for step in unlike_steps(scribe):
        steps.extend(steps_in_two(step, sets, letters))
    found = {}
    for step in steps:
        # The first one stays, for it is the first step that leads into the set.
        found.setdefault((step[0], step[1]), step)
    return list(found.values())


def forth_of(scribe, sets, letters):
    """The plain scribe that reads what was written from the end, turned, and takes the first way."""
    signs = "".join(letters) + scribe[SIGNS]
    begins = [((), "")]
    steps = all_forth_steps(scribe, sets, letters)
    words = {}
    for room, word in scribe[ENDS]:
        words.setdefault((room,), word)
    come_to = traces_from_begins((signs, 0, begins, steps, []))
    kept = [step for step in steps if step[OUT_OF] in come_to]
    ends = [(room, words[room]) for room in words if room in come_to]
    return numbered_of((signs, len(come_to), begins, kept, ends))


def two_passes(scribe):
    """Two plain scribes that settle which word a scribe writes: the first way's, the first one of them from the end."""
    refuse_many_rooms(scribe)
    told = sets_and_moves(scribe)
    sets = told[0]
    if sets == []:
        return ((scribe[SIGNS], 0, [], [], []), (scribe[SIGNS], 0, [], [], []))
    letters = letters_for(len(sets), scribe[SIGNS])
    forth = forth_of(scribe, sets, letters)
    if forth[ROOMS] > MOST_ROOMS:
        raise TooMany("the scribe that reads what was written from the end has too many rooms")
    return (back_of(scribe, sets, told[1], letters), forth)
