"""Scribes: what one is, what its ways read and write, and what it writes for a text."""

from earlyscribe.errors import NotPlain, NoWay, OtherSigns, TooMany

# Where the parts of a scribe stand in its tuple.
SIGNS = 0
ROOMS = 1
BEGINS = 2
STEPS = 3
ENDS = 4

MOST_ROOMS = 200
MOST_PAIRS = 1000


def is_tuple_of(thing, count):
    """Tell whether a thing is a tuple of so many parts."""
    return isinstance(thing, tuple) and len(thing) == count


def is_number_below(thing, bound):
    """Tell whether a thing is a whole number from nought to just below a bound."""
    # To Python, True and False are whole numbers.
    if not isinstance(thing, int) or isinstance(thing, bool):
        return False
    return 0 <= thing < bound


def is_word(thing):
    """Tell whether a thing is a text of letters a to z, the empty one too."""
    if not isinstance(thing, str):
        return False
    return thing == "" or ("a" <= min(thing) and max(thing) <= "z")


def all_unlike(parts):
    """Tell whether no part of a list or text stands in it twice."""
    return len(set(parts)) == len(parts)


def are_signs(thing):
    """Tell whether a thing is a text of one or more unlike signs."""
    return is_word(thing) and thing != "" and all_unlike(thing)


def is_mark(thing, rooms):
    """Tell whether a thing is a tuple (room, word), as begins and ends are."""
    return is_tuple_of(thing, 2) and is_number_below(thing[0], rooms) and is_word(thing[1])


def is_step(thing, signs, rooms):
    """Tell whether a thing is a tuple (room, sign, word, room)."""
    if not is_tuple_of(thing, 4):
        return False
    if not is_number_below(thing[0], rooms) or not is_number_below(thing[3], rooms):
        return False
    # The length is asked too, for longer texts and the empty one can stand within signs.
    if not isinstance(thing[1], str) or len(thing[1]) != 1 or thing[1] not in signs:
        return False
    return is_word(thing[2])


def are_marks(thing, rooms):
    """Tell whether a thing is a list of unlike tuples (room, word)."""
    if not isinstance(thing, list):
        return False
    return all([is_mark(part, rooms) for part in thing]) and all_unlike(thing)


def are_steps(thing, signs, rooms):
    """Tell whether a thing is a list of unlike tuples (room, sign, word, room)."""
    if not isinstance(thing, list):
        return False
    return all([is_step(part, signs, rooms) for part in thing]) and all_unlike(thing)


def is_scribe(thing):
    """Tell of anything whether it is a scribe; its words may have any length."""
    if not is_tuple_of(thing, 5):
        return False
    signs = thing[SIGNS]
    rooms = thing[ROOMS]
    if not are_signs(signs) or not is_number_below(rooms, MOST_ROOMS + 1):
        return False
    if not are_marks(thing[BEGINS], rooms) or not are_marks(thing[ENDS], rooms):
        return False
    return are_steps(thing[STEPS], signs, rooms)


def is_plain(scribe):
    """Tell whether a scribe has no choice of a begin, of a step or of an end."""
    if len(scribe[BEGINS]) > 1:
        return False
    if not all_unlike([(step[0], step[1]) for step in scribe[STEPS]]):
        return False
    return all_unlike([end[0] for end in scribe[ENDS]])


def refuse_choices(scribe):
    """Refuse a scribe that isn't plain."""
    if not is_plain(scribe):
        raise NotPlain("a plain scribe is asked for, and this one has choices")


def refuse_other_signs(one, other):
    """Refuse two scribes whose signs aren't the same text."""
    if one[SIGNS] != other[SIGNS]:
        raise OtherSigns("the signs of the two scribes aren't the same text")


def refuse_many_pairs(one, other):
    """Refuse two scribes that have more pairs of rooms than a scribe has rooms."""
    if one[ROOMS] * other[ROOMS] > MOST_ROOMS:
        raise TooMany("the two scribes have too many pairs of rooms")


def part_at(parts, place):
    """The part of a list at a place that a way names."""
    # Below nought Python would count from the list's end.
    if not 0 <= place < len(parts):
        raise NoWay("the way names a place that the scribe's list doesn't have")
    return parts[place]


def walked_by(scribe, way):
    """What a way of a scribe reads and writes."""
    begin = part_at(scribe[BEGINS], way[0])
    room = begin[0]
    read = []
    written = [begin[1]]
    for place in way[1]:
        step = part_at(scribe[STEPS], place)
        if step[0] != room:
            raise NoWay("a step of the way goes out of another room than it is at")
        read.append(step[1])
        written.append(step[2])
        room = step[3]
    end = part_at(scribe[ENDS], way[2])
    if end[0] != room:
        raise NoWay("the end of the way is of another room than it is at")
    written.append(end[1])
    return ("".join(read), "".join(written))


def steps_by_start(scribe):
    """The steps that go out of each room with each sign, in their order."""
    found = {}
    for step in scribe[STEPS]:
        found.setdefault((step[0], step[1]), []).append(step)
    return found


def end_words_by_room(scribe):
    """The words of the ends of each room, in their order."""
    found = {}
    for room, word in scribe[ENDS]:
        found.setdefault(room, []).append(word)
    return found


def read_from(steps, room, text):
    """The room that a plain scribe comes to as it reads a text from a room on, and what it writes, or None."""
    written = []
    for sign in text:
        if (room, sign) not in steps:
            return None
        step = steps[(room, sign)][0]
        written.append(step[2])
        room = step[3]
    return (room, "".join(written))


def written_for(scribe, text):
    """The word that a plain scribe writes for a text, or None where it writes none."""
    refuse_choices(scribe)
    if scribe[BEGINS] == []:
        return None
    begin = scribe[BEGINS][0]
    read = read_from(steps_by_start(scribe), begin[0], text)
    ends = end_words_by_room(scribe)
    if read is None or read[0] not in ends:
        return None
    return begin[1] + read[1] + ends[read[0]][0]


def refuse_many(pairs):
    """Refuse more pairs than are taken on."""
    if len(pairs) > MOST_PAIRS:
        raise TooMany("too many pairs of a room and a word for a beginning of the text")


def pairs_behind(pairs, sign, steps):
    """The pairs (room, word) that steps with a sign lead to from other ones, each once."""
    behind = {}
    for room, word in pairs:
        for step in steps.get((room, sign), []):
            behind[(step[3], word + step[2])] = True
            # Asked at each pair, so that a multitude of them is never made.
            refuse_many(behind)
    return list(behind)


def all_written(scribe, text):
    """All words that a scribe writes for a text, ascending, each once."""
    pairs = scribe[BEGINS]
    refuse_many(pairs)
    steps = steps_by_start(scribe)
    for sign in text:
        pairs = pairs_behind(pairs, sign, steps)
    ends = end_words_by_room(scribe)
    words = {}
    for room, word in pairs:
        for last in ends.get(room, []):
            words[word + last] = True
    return sorted(words)
