"""The plainest form: alike rooms made one, and rooms numbered as they are come to."""

from earlyscribe.early import earliest_of
from earlyscribe.scribes import BEGINS, ENDS, ROOMS, SIGNS, STEPS, steps_by_start


def numbers_for(things):
    """For each thing of a list a number, the same for the same things: they are counted as they first come."""
    numbers = {}
    told = []
    for thing in things:
        if thing not in numbers:
            numbers[thing] = len(numbers)
        told.append(numbers[thing])
    return told


def moves_by_room(scribe):
    """For each room its steps as pairs of a number, which stands for the sign and the word, and of a room."""
    # Words may be very long, and the pairs are compared time and again.
    labels = numbers_for([(step[1], step[2]) for step in scribe[STEPS]])
    moves = [[] for room in range(scribe[ROOMS])]
    for label, step in zip(labels, scribe[STEPS]):
        moves[step[0]].append((label, step[3]))
    return moves


def moves_to_groups(moves, groups):
    """The moves of a room with the groups of the rooms they go to, in an order that is the same for the same ones."""
    return tuple(sorted([(label, groups[room]) for label, room in moves]))


def alike_groups(scribe):
    """For each room of an earliest scribe a number, the same for alike rooms.

    All its heads are empty, so rooms are alike just where their ends' words are the same and, sign by sign, their
    steps write the same and go to alike rooms. All rooms with the same end are taken for alike at first, and those
    that a step tells apart are parted until none are.
    """
    words = dict(scribe[ENDS])
    moves = moves_by_room(scribe)
    groups = numbers_for([words.get(room) for room in range(scribe[ROOMS])])
    count = 0
    while count < len(set(groups)):
        count = len(set(groups))
        groups = numbers_for([(group, moves_to_groups(own, groups)) for group, own in zip(groups, moves)])
    return groups


def each_once(parts):
    """The parts of a list in their order, each one where it first stands."""
    found = {}
    for part in parts:
        found[part] = True
    return list(found)


def with_groups_as_rooms(scribe, groups):
    """A scribe with the rooms of each group made one."""
    begins = [(groups[room], word) for room, word in scribe[BEGINS]]
    steps = [(groups[start], sign, word, groups[goal]) for start, sign, word, goal in scribe[STEPS]]
    ends = [(groups[room], word) for room, word in scribe[ENDS]]
    return (scribe[SIGNS], len(set(groups)), begins, each_once(steps), each_once(ends))


def numbers_as_come_to(scribe):
    """The new numbers of a plain scribe's rooms, counted from its begin's room on, sign by sign."""
    steps = steps_by_start(scribe)
    order = [room for room, word in scribe[BEGINS]]
    numbers = {}
    for room in order:
        numbers[room] = len(numbers)
    done = 0
    while done < len(order):
        for sign in scribe[SIGNS]:
            for step in steps.get((order[done], sign), []):
                if step[3] not in numbers:
                    numbers[step[3]] = len(numbers)
                    order.append(step[3])
        done = done + 1
    return numbers


def numbered_of(scribe):
    """A plain scribe all of whose rooms can be come to, with its rooms numbered so and its lists in that order."""
    signs = scribe[SIGNS]
    numbers = numbers_as_come_to(scribe)
    begins = [(numbers[room], word) for room, word in scribe[BEGINS]]
    steps = [(numbers[start], sign, word, numbers[goal]) for start, sign, word, goal in scribe[STEPS]]
    ends = [(numbers[room], word) for room, word in scribe[ENDS]]
    in_order = sorted(steps, key=lambda step: (step[0], signs.index(step[1])))
    return (signs, len(numbers), begins, in_order, sorted(ends))


def plainest_of(scribe):
    """The one form that all plain scribes have which write the same as a plain scribe."""
    earliest = earliest_of(scribe)
    return numbered_of(with_groups_as_rooms(earliest, alike_groups(earliest)))
