"""Scribes and askings that several tests use."""

import copy
import random

# A plain one: an o to open with, an x for each a, a y for each b, never two b in a row, a z unless a b is last.
ECHO = ("ab", 2, [(0, "o")], [(0, "a", "x", 0), (0, "b", "y", 1), (1, "a", "x", 0)], [(0, "z"), (1, "")])

NO_ROOMS = ("ab", 0, [], [], [])


def left_as_it_was(test, ask, *handed):
    """Ask, and see that nothing that was handed in has changed."""
    kept = copy.deepcopy(handed)
    answer = ask(*handed)
    test.assertEqual(handed, kept)
    return answer


def some_scribes(count, seed):
    """Small scribes with choices, the same ones each time."""
    source = random.Random(seed)
    words = ["", "a", "b", "ab", "ba", "aa"]
    for number in range(count):
        rooms = source.randint(1, 3)
        begins = [(source.randrange(rooms), source.choice(words)) for turn in range(source.randint(0, 3))]
        steps = [(source.randrange(rooms), source.choice("ab"), source.choice(words), source.randrange(rooms))
                 for turn in range(source.randint(0, 6))]
        ends = [(source.randrange(rooms), source.choice(words)) for turn in range(source.randint(0, 3))]
        yield ("ab", rooms, list(dict.fromkeys(begins)), list(dict.fromkeys(steps)), list(dict.fromkeys(ends)))


def all_ways(scribe, count):
    """All ways of a scribe with so many steps, found by trying every row."""
    signs, rooms, begins, steps, ends = scribe
    rows = [(begin, [], room) for begin, (room, word) in enumerate(begins)]
    for turn in range(count):
        rows = [(begin, row + [place], step[3])
                for begin, row, room in rows for place, step in enumerate(steps) if step[0] == room]
    return [(begin, row, end)
            for begin, row, room in rows for end, (last, word) in enumerate(ends) if last == room]
