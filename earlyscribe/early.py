"""As early as can be: what is sure to be written from a room on, and the scribe that writes it ahead."""

from earlyscribe.scribes import BEGINS, ENDS, ROOMS, SIGNS, STEPS, refuse_choices
from earlyscribe.trims import traces_to_ends, trimmed_of
from earlyscribe.words import shared_length


def words_to_ends(scribe):
    """For each room from which an end can be come to, a word that a way writes from there on."""
    words = {}
    # The rooms stand in the order in which the ends are left, so the room that a step goes to has its word by then.
    for room, trace in traces_to_ends(scribe).items():
        if trace[1] is None:
            words[room] = scribe[ENDS][trace[0]][1]
        else:
            step = scribe[STEPS][trace[1]]
            words[room] = step[2] + words[step[3]]
    return words


def steps_by_goal(scribe):
    """The steps that go to each room, in their order."""
    found = {}
    for step in scribe[STEPS]:
        found.setdefault(step[3], []).append(step)
    return found


def shorten_by(heads, rooms, steps):
    """Shorten heads until they begin what the steps into some rooms write with the heads of these behind.

    Told are the rooms whose heads were shortened, each once.
    """
    shortened = {}
    for room in rooms:
        for step in steps.get(room, []):
            start = step[0]
            shared = shared_length(heads[start], step[2] + heads[room])
            if shared < len(heads[start]):
                heads[start] = heads[start][:shared]
                shortened[start] = True
    return list(shortened)


def heads_by_room(scribe):
    """The head of each room of a plain scribe from which an end can be come to."""
    # A head begins each word that can be written, so it is found by shortening one of them. That of a room with an
    # end is the end's own word: ends are seen to from the first.
    heads = words_to_ends(scribe)
    steps = steps_by_goal(scribe)
    rooms = list(heads)
    # Words that part do so within twice as many steps as there are rooms, so the turns are no more than that.
    while rooms != []:
        rooms = shorten_by(heads, rooms, steps)
    return heads


def heads_of(scribe):
    """The heads of a plain scribe's rooms, None for a room from which no end can be come to."""
    refuse_choices(scribe)
    heads = heads_by_room(scribe)
    return [heads.get(room) for room in range(scribe[ROOMS])]


def earlier_step(step, heads):
    """A step that writes the head of the room it goes to, for that of its own room was written ahead of it."""
    word = step[2] + heads[step[3]]
    return (step[0], step[1], word[len(heads[step[0]]):], step[3])


def earliest_of(scribe):
    """The trimmed scribe of a plain scribe, each letter written as soon as it is sure to come."""
    refuse_choices(scribe)
    trimmed = trimmed_of(scribe)
    heads = heads_of(trimmed)
    begins = [(room, word + heads[room]) for room, word in trimmed[BEGINS]]
    steps = [earlier_step(step, heads) for step in trimmed[STEPS]]
    ends = [(room, word[len(heads[room]):]) for room, word in trimmed[ENDS]]
    return (trimmed[SIGNS], trimmed[ROOMS], begins, steps, ends)
