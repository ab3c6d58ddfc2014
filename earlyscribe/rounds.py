"""Rounds: two that read alike and change what is left of the words written, so that no plain scribe writes the same."""

from earlyscribe.choices import (
    PLACES, WORDS, behind_one_another, doubled_of, trail_from_begin, words_ahead, words_behind)
from earlyscribe.forms import each_once
from earlyscribe.scribes import BEGINS, ENDS, ROOMS, SIGNS, STEPS
from earlyscribe.trims import INTO, OUT_OF, places_at, traces_from_begins, traces_to_ends, trail_of, useful_rooms
from earlyscribe.words import gap_of

# A rest is what is left of the two words that a double has written by the time it comes to a pair of rooms.
RESTS_TO_GO_ON_FROM = 2

NOTHING = ("", "")


def are_all_in(rooms, others):
    """Tell whether some rooms are all among others."""
    return all([room in others for room in rooms])


def double_of_use(scribe):
    """A scribe's double without the pairs that have a room of no use."""
    rooms = useful_rooms(scribe)
    double = doubled_of(scribe)
    begins = [begin for begin in double[BEGINS] if are_all_in(begin[0], rooms)]
    steps = [step for step in double[STEPS] if are_all_in(step[OUT_OF] + step[INTO], rooms)]
    return (double[SIGNS], double[ROOMS], begins, steps, double[ENDS])


def rest_behind(rest, words):
    """What is left of two words of which a rest was left, with two words more behind them."""
    told = behind_one_another(rest, words)
    return gap_of(told[0], told[1])


def longer_rows(double, places, told):
    """The rows that go on from a row (pair, rest, begin, row) with a step at one of some places."""
    longer = []
    for place in places:
        step = double[STEPS][place]
        longer.append((step[INTO], rest_behind(told[1], step[WORDS]), told[2], told[3] + [place]))
    return longer


def rows_by_rest(double):
    """For pairs of rooms and rests there, the place of a begin and the list of steps' places that lead to them so.

    Rows go on from two rests of each pair alone. A round whose two words have one length, and aren't empty, leaves a
    rest as it is just where the rest's words, each with the round's word behind it for ever, are one endless word. Let
    S and T be the endless words written from a pair on, by a trail to the round and by the round for ever; and other
    ones those written by a step and then by a trail behind it and the round. Two unlike rests that make S and T one
    settle the turns in which S and T come back. Where they make the other ones one too, these come back in the same
    turns, and are S and T: so whichever rest is good for S and T is good behind the step.
    """
    places = places_at(double[STEPS], OUT_OF)
    rows = {}
    counts = {}
    front = [(begin[0], rest_behind(NOTHING, begin[WORDS]), place, []) for place, begin in enumerate(double[BEGINS])]
    while front != []:
        behind = []
        for told in front:
            pair = told[0]
            if (pair, told[1]) not in rows:
                rows[(pair, told[1])] = (told[2], told[3])
                counts[pair] = counts.get(pair, 0) + 1
                if counts[pair] <= RESTS_TO_GO_ON_FROM:
                    behind.extend(longer_rows(double, places.get(pair, []), told))
        front = behind
    return rows


def around_pair(double, pair):
    """A double with a pair of rooms as its one begin and its one end: its ways are the rounds there."""
    mark = (pair, (), NOTHING)
    return (double[SIGNS], double[ROOMS], [mark], double[STEPS], [mark])


def round_to_ask(around, ahead, behind):
    """The places of a round and the two words it writes: unlike in length, or at least not both empty; or None.

    Each step that some round has is tried with one trail to it and one on from it. Where all of these write words of
    one length, how far one word is ahead of the other one is settled for each pair, and so all rounds do.
    """
    first_words = words_ahead(around, ahead)
    last_words = words_behind(around, behind)
    told = None
    for place, step in enumerate(around[STEPS]):
        start = step[OUT_OF]
        goal = step[INTO]
        if start in ahead and goal in behind:
            words = behind_one_another(behind_one_another(first_words[start], step[WORDS]), last_words[goal])
            are_level = len(words[0]) == len(words[1])
            if not are_level or (told is None and words != NOTHING):
                row = trail_from_begin(start, ahead, around) + [place]
                told = (row + trail_of(goal, behind, around[STEPS], INTO), words)
            if not are_level:
                return told
    return told


def row_to_round(around, behind, rows, words):
    """The begin and the places of a row with another rest ahead of a round than behind it, or None."""
    last_words = words_behind(around, behind)
    for pair, rest in rows:
        if pair in behind:
            ahead_of_round = rest_behind(rest, last_words[pair])
            if rest_behind(ahead_of_round, words) != ahead_of_round:
                row = rows[(pair, rest)]
                return (row[0], row[1] + trail_of(pair, behind, around[STEPS], INTO))
    return None


def single_round(double, row, turn, which):
    """One of the two tuples (begin, row, round) that a row of a double and a round behind it are."""
    begin = double[BEGINS][row[0]][PLACES][which]
    steps = double[STEPS]
    return (begin, [steps[place][PLACES][which] for place in row[1]], [steps[place][PLACES][which] for place in turn])


def rounds_at(double, rows, around, ahead, behind):
    """Two tuples (begin, row, round), the rows to a pair of rooms and a round there that changes the rest, or None."""
    told = round_to_ask(around, ahead, behind)
    if told is None:
        return None
    row = row_to_round(around, behind, rows, told[1])
    if row is None:
        return None
    return (single_round(double, row, told[0], 0), single_round(double, row, told[0], 1))


def rounds_apart(scribe):
    """Two tuples (begin, row, round) that show that no plain scribe writes the same as a scribe, or None.

    The scribe has at most eight rooms and writes at most one word for each text. So there are at most 64 pairs of
    rooms: a row told has at most 128 steps and a trail of 63 behind them, a round two such trails and a step between.
    """
    double = double_of_use(scribe)
    rows = rows_by_rest(double)
    asked = {}
    for pair in each_once([pair for pair, rest in rows]):
        if pair not in asked:
            around = around_pair(double, pair)
            ahead = traces_from_begins(around)
            behind = traces_to_ends(around)
            told = rounds_at(double, rows, around, ahead, behind)
            if told is not None:
                return told
            # Where a round at another one of these pairs changed a rest, one at this pair would.
            for other in ahead:
                if other in behind:
                    asked[other] = True
    return None
