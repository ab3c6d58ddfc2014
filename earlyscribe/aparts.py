"""Two scribes apart: a text for which two plain scribes don't write alike."""

from earlyscribe.early import earliest_of
from earlyscribe.scribes import BEGINS, ENDS, ROOMS, SIGNS, STEPS, refuse_choices, refuse_other_signs
from earlyscribe.trims import INTO, OUT_OF, traces_from, traces_to_ends, trail_of
from earlyscribe.words import gap_of

# The scribes below are earliest ones: all their rooms are of use, and their heads are empty. A mark is a tuple
# (room, word), a room that is come to and the word written on coming there, or None where no room is come to.


def text_to_end(scribe, room):
    """A shortest text that leads from a room to an end."""
    trail = trail_of(room, traces_to_ends(scribe), scribe[STEPS], INTO)
    return "".join([scribe[STEPS][place][1] for place in trail])


def silent_texts(scribe, room):
    """For each room that can be come to from a room with nothing written, a text that leads there."""
    steps = [step for step in scribe[STEPS] if step[2] == ""]
    texts = {}
    for goal, trace in traces_from([(room, "")], steps, OUT_OF, INTO).items():
        if trace[1] is None:
            texts[goal] = ""
        else:
            step = steps[trace[1]]
            texts[goal] = texts[step[OUT_OF]] + step[1]
    return texts


def text_without(scribe, room, letter):
    """A text for which a scribe writes, from a room on, a word that doesn't begin with a letter.

    There is one, for the room's head is empty.
    """
    texts = silent_texts(scribe, room)
    for last, word in scribe[ENDS]:
        if last in texts and not word.startswith(letter):
            return texts[last]
    for start, sign, word, goal in scribe[STEPS]:
        if start in texts and word != "" and not word.startswith(letter):
            return texts[start] + sign + text_to_end(scribe, goal)
    return None


def are_unlike(one, other):
    """Tell whether two marks have unlike words, or just one of them is None."""
    if one is None or other is None:
        return one != other
    return one[1] != other[1]


def text_behind(ones, one, others, other):
    """A text for which two scribes write unlike things from two unlike marks on, the marks' words with them."""
    if one is None:
        return text_to_end(others, other[0])
    if other is None:
        return text_to_end(ones, one[0])
    gap = gap_of(one[1], other[1])
    # Where one word begins the other one, the rest may still be written, but not for every text.
    if gap[0] == "":
        return text_without(ones, one[0], gap[1][0])
    if gap[1] == "":
        return text_without(others, other[0], gap[0][0])
    return text_to_end(ones, one[0])


def marks_by_start(scribe):
    """The mark that each room leads to with each sign."""
    found = {}
    for start, sign, word, goal in scribe[STEPS]:
        found[(start, sign)] = (goal, word)
    return found


def apart_from_rooms(ones, others, room, other_room):
    """A text for which two scribes write unlike things from two rooms on, or None where there is none."""
    marks = marks_by_start(ones)
    other_marks = marks_by_start(others)
    last_words = dict(ones[ENDS])
    other_last_words = dict(others[ENDS])
    # The rooms of a pair are come to by the same text with the same written by then, so they go into one group of
    # rooms that would have to be alike. Two rooms of one group tell nothing new as a pair. So each further pair makes
    # two groups one, and the texts have fewer signs than there are rooms.
    groups = list(range(ones[ROOMS] + others[ROOMS]))
    pairs = [(room, other_room, "")]
    done = 0
    while done < len(pairs):
        here = pairs[done]
        done = done + 1
        if last_words.get(here[0]) != other_last_words.get(here[1]):
            return here[2]
        for sign in ones[SIGNS]:
            mark = marks.get((here[0], sign))
            other_mark = other_marks.get((here[1], sign))
            if are_unlike(mark, other_mark):
                return here[2] + sign + text_behind(ones, mark, others, other_mark)
            if mark is not None:
                old = groups[mark[0]]
                new = groups[ones[ROOMS] + other_mark[0]]
                if old != new:
                    groups = [new if group == old else group for group in groups]
                    pairs.append((mark[0], other_mark[0], here[2] + sign))
    return None


def begin_mark(scribe):
    """The mark with which a scribe begins."""
    if scribe[BEGINS] == []:
        return None
    return scribe[BEGINS][0]


def apart_text(one, other):
    """A text for which two plain scribes don't write alike, or None where there is none."""
    refuse_choices(one)
    refuse_choices(other)
    refuse_other_signs(one, other)
    ones = earliest_of(one)
    others = earliest_of(other)
    begin = begin_mark(ones)
    other_begin = begin_mark(others)
    if are_unlike(begin, other_begin):
        return text_behind(ones, begin, others, other_begin)
    if begin is None:
        return None
    return apart_from_rooms(ones, others, begin[0], other_begin[0])
