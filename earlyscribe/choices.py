"""Two ways: whether a scribe with choices writes more than one word for some text."""

from earlyscribe.errors import TooMany
from earlyscribe.scribes import BEGINS, ENDS, ROOMS, SIGNS, STEPS
from earlyscribe.trims import INTO, OUT_OF, traces_from_begins, traces_to_ends, trail_of

MOST_ROOMS_WITH_CHOICES = 8

# A way of a scribe's double is two ways of the scribe that read the same text. Its rooms are pairs of rooms; its begins
# and ends are tuples (pair of rooms, pair of places, pair of words), its steps are tuples (pair of rooms, pair of
# places, pair of words, pair of rooms); the places are those of the scribe's own lists.
PLACES = 1
WORDS = 2


def refuse_many_rooms(scribe):
    """Refuse a scribe that has more rooms than are taken on where there are choices."""
    if scribe[ROOMS] > MOST_ROOMS_WITH_CHOICES:
        raise TooMany("a scribe with choices may have no more than eight rooms")


def two_of_each(keys):
    """The places in a list at which a key stands for the first or the second time."""
    counts = {}
    places = []
    for place, key in enumerate(keys):
        counts[key] = counts.get(key, 0) + 1
        if counts[key] <= 2:
            places.append(place)
    return places


def doubled_marks(marks):
    """The begins or ends of a double: each two of the scribe's."""
    # Two of one room have unlike words, so they show already whatever further ones of this room could.
    places = two_of_each([mark[0] for mark in marks])
    doubled = []
    for one in places:
        first = marks[one]
        for other in places:
            second = marks[other]
            doubled.append(((first[0], second[0]), (one, other), (first[1], second[1])))
    return doubled


def places_by_sign(steps):
    """The places of the steps with each sign, no more than two of those between the same two rooms."""
    found = {}
    for place in two_of_each([(step[OUT_OF], step[1], step[INTO]) for step in steps]):
        found.setdefault(steps[place][1], []).append(place)
    return found


def doubled_steps(steps):
    """The steps of a double: each two of the scribe's that have the same sign."""
    doubled = []
    for places in places_by_sign(steps).values():
        for one in places:
            first = steps[one]
            for other in places:
                second = steps[other]
                start = (first[OUT_OF], second[OUT_OF])
                goal = (first[INTO], second[INTO])
                doubled.append((start, (one, other), (first[2], second[2]), goal))
    return doubled


def doubled_of(scribe):
    """A scribe's double."""
    begins = doubled_marks(scribe[BEGINS])
    steps = doubled_steps(scribe[STEPS])
    ends = doubled_marks(scribe[ENDS])
    return (scribe[SIGNS], scribe[ROOMS] * scribe[ROOMS], begins, steps, ends)


def behind_one_another(ahead, behind):
    """The pair of two words, each with another one behind it."""
    return (ahead[0] + behind[0], ahead[1] + behind[1])


def words_ahead(double, ahead):
    """For each pair of rooms that can be come to, the two words written by then."""
    words = {}
    # The pairs stand in the order in which the begins lead to them, so that ahead of a step has its words by then.
    for pair, trace in ahead.items():
        if trace[1] is None:
            words[pair] = double[BEGINS][trace[0]][WORDS]
        else:
            step = double[STEPS][trace[1]]
            words[pair] = behind_one_another(words[step[OUT_OF]], step[WORDS])
    return words


def words_behind(double, behind):
    """For each pair of rooms from which ends can be come to, the two words written from there on."""
    words = {}
    for pair, trace in behind.items():
        if trace[1] is None:
            words[pair] = double[ENDS][trace[0]][WORDS]
        else:
            step = double[STEPS][trace[1]]
            words[pair] = behind_one_another(step[WORDS], words[step[INTO]])
    return words


def are_apart(ahead, behind):
    """Tell whether two words, each with another one behind it, are unlike."""
    return ahead[0] + behind[0] != ahead[1] + behind[1]


def way_apart_by_begin(double, behind):
    """A way of a double that writes unlike words: a begin, and the trail on from its rooms; or None."""
    words = words_behind(double, behind)
    for place, begin in enumerate(double[BEGINS]):
        pair = begin[0]
        if pair in words and are_apart(begin[WORDS], words[pair]):
            return (place, trail_of(pair, behind, double[STEPS], INTO), behind[pair][0])
    return None


def trail_from_begin(pair, ahead, double):
    """The places of the steps that lead from a begin to a pair of rooms, the one at the begin first."""
    return list(reversed(trail_of(pair, ahead, double[STEPS], OUT_OF)))


def way_apart_by_step(double, ahead, behind):
    """A way of a double that writes unlike words: the trail to a step, it, and the trail on from it; or None."""
    first_words = words_ahead(double, ahead)
    last_words = words_behind(double, behind)
    for place, step in enumerate(double[STEPS]):
        start = step[OUT_OF]
        goal = step[INTO]
        if start in first_words and goal in last_words:
            if are_apart(behind_one_another(first_words[start], step[WORDS]), last_words[goal]):
                row = trail_from_begin(start, ahead, double) + [place]
                return (ahead[start][0], row + trail_of(goal, behind, double[STEPS], INTO), behind[goal][0])
    return None


def way_apart_by_end(double, ahead):
    """A way of a double that writes unlike words: the trail to the rooms of an end, and it; or None."""
    words = words_ahead(double, ahead)
    for place, end in enumerate(double[ENDS]):
        pair = end[0]
        if pair in words and are_apart(words[pair], end[WORDS]):
            return (ahead[pair][0], trail_from_begin(pair, ahead, double), place)
    return None


def way_apart(double):
    """A way of a double that writes unlike words, or None where there is none.

    For each pair of rooms one trail to it and one trail on from it are known. Where no begin, step or end writes unlike
    words between such trails, how far one word is ahead of the other one at a pair, and with which letters, is settled
    by the trail on from it, however the pair is come to: so no way at all writes unlike words. A trail has fewer steps
    than there are pairs, which are 64 at most, so the way told has no more than 127.
    """
    ahead = traces_from_begins(double)
    behind = traces_to_ends(double)
    way = way_apart_by_begin(double, behind)
    if way is None:
        way = way_apart_by_step(double, ahead, behind)
    if way is None:
        way = way_apart_by_end(double, ahead)
    return way


def single_way(double, way, which):
    """One of the two ways that a way of a double is."""
    row = [double[STEPS][place][PLACES][which] for place in way[1]]
    return (double[BEGINS][way[0]][PLACES][which], row, double[ENDS][way[2]][PLACES][which])


def two_ways(scribe):
    """Two ways of a scribe that read the same text and write unlike words, or None where there are none."""
    refuse_many_rooms(scribe)
    double = doubled_of(scribe)
    way = way_apart(double)
    if way is None:
        return None
    return (single_way(double, way, 0), single_way(double, way, 1))
