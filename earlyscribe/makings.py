"""Made plain: the plain scribe that writes the same as one with choices, where there is one."""

from earlyscribe.choices import two_ways
from earlyscribe.errors import NeverPlain, TooMany, TwoWays
from earlyscribe.rounds import rounds_apart
from earlyscribe.scribes import (
    BEGINS, MOST_ROOMS, ROOMS, SIGNS, end_words_by_room, pairs_behind, steps_by_start)
from earlyscribe.trims import trimmed_of
from earlyscribe.words import common_of

# A set is a tuple of pairs (room, word), ascending: the rooms that a text leads to, and what is still to be written.


def shared_and_set(pairs):
    """The longest word that begins the words of some pairs, and the set of these with that word taken off."""
    shared = common_of([word for room, word in pairs])
    return (shared, tuple(sorted([(room, word[len(shared):]) for room, word in pairs])))


def refuse_further_set(sets):
    """Refuse a further set where there are as many as a scribe has rooms."""
    if len(sets) == MOST_ROOMS:
        raise TooMany("the plain scribe would have too many rooms")


def made_ends(scribe, sets):
    """The ends of the sets that have a room with an end."""
    last_words = end_words_by_room(scribe)
    ends = []
    for number, pairs in enumerate(sets):
        # All such rooms of a set come to the same word, for the scribe writes one word for each text.
        words = [word + last_words[room][0] for room, word in pairs if room in last_words]
        if words != []:
            ends.append((number, words[0]))
    return ends


def made_of(scribe):
    """The plain scribe of a scribe that has some rooms, all of them of use."""
    steps_out = steps_by_start(scribe)
    begin = shared_and_set(scribe[BEGINS])
    sets = [begin[1]]
    numbers = {begin[1]: 0}
    steps = []
    done = 0
    while done < len(sets):
        for sign in scribe[SIGNS]:
            pairs = pairs_behind(sets[done], sign, steps_out)
            if pairs != []:
                told = shared_and_set(pairs)
                if told[1] not in numbers:
                    refuse_further_set(sets)
                    numbers[told[1]] = len(sets)
                    sets.append(told[1])
                steps.append((done, sign, told[0], numbers[told[1]]))
        done = done + 1
    return (scribe[SIGNS], len(sets), [(0, begin[0])], steps, made_ends(scribe, sets))


def made_plain(scribe):
    """The plain scribe that writes for every text what a scribe writes."""
    # Scribes of too many rooms are refused here, too.
    ways = two_ways(scribe)
    if ways is not None:
        raise TwoWays(ways)
    rounds = rounds_apart(scribe)
    if rounds is not None:
        raise NeverPlain(rounds[0], rounds[1])
    trimmed = trimmed_of(scribe)
    if trimmed[ROOMS] == 0:
        return (scribe[SIGNS], 0, [], [], [])
    return made_of(trimmed)
