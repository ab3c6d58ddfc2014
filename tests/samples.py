"""Scribes and askings that several tests use."""

import copy
import itertools
import random

# A plain one: an o to open with, an x for each a, a y for each b, never two b in a row, a z unless a b is last.
ECHO = ("ab", 2, [(0, "o")], [(0, "a", "x", 0), (0, "b", "y", 1), (1, "a", "x", 0)], [(0, "z"), (1, "")])

NO_ROOMS = ("ab", 0, [], [], [])

# Plain ones that have rooms but write nothing for any text.
NOTHING_WRITTEN = (
    ("ba", 1, [], [], []),
    ("ba", 2, [], [(0, "a", "x", 1)], [(1, "y")]),
    ("ba", 2, [(0, "x")], [(0, "a", "", 1)], []),
    ("ba", 2, [(0, "")], [(1, "a", "", 0)], [(1, "")]),
)

# Rooms 1, 2 and 5 are of use. No end can be come to from 0, 3 and 7, no begin leads to 4 and 6, and 8 has neither.
MIXED = (
    "ba", 9,
    [(7, "t"), (5, "u")],
    [(5, "b", "x", 0), (0, "a", "", 0), (5, "a", "xy", 2), (2, "b", "y", 1), (0, "b", "", 3), (4, "a", "z", 2),
     (1, "a", "", 5), (4, "b", "", 4), (6, "a", "w", 4), (1, "b", "v", 1), (8, "a", "", 8)],
    [(4, ""), (1, "p"), (2, "q")],
)

# The same with one begin alone: room 7 has neither then.
PLAIN_MIXED = MIXED[:2] + ([(5, "u")],) + MIXED[3:]


def left_as_it_was(test, ask, *handed):
    """Ask, and see that nothing that was handed in has changed."""
    kept = copy.deepcopy(handed)
    answer = ask(*handed)
    test.assertEqual(handed, kept)
    return answer


def refused_with(test, error, ask, *handed):
    """Ask, and see that it is refused with this class and no other one, and that nothing handed in has changed."""
    kept = copy.deepcopy(handed)
    with test.assertRaises(error) as caught:
        ask(*handed)
    test.assertIs(type(caught.exception), error)
    test.assertEqual(handed, kept)
    return caught.exception


def lists_within(thing):
    """All lists within a thing made of tuples and lists, the thing itself too."""
    if isinstance(thing, (tuple, list)):
        for part in thing:
            yield from lists_within(part)
    if isinstance(thing, list):
        yield thing


def told_as_own(test, ask, *handed):
    """Ask, and see that the lists told are the asker's own, whatever is done to them or to what was handed in."""
    handed = copy.deepcopy(handed)
    kept = copy.deepcopy(handed)
    told = ask(*handed)
    answer = copy.deepcopy(told)
    lists = list(lists_within(told)) + list(lists_within(handed))
    test.assertEqual(len(set(map(id, lists))), len(lists), "a list stands at two places")
    for part in lists_within(told):
        part.clear()
    test.assertEqual(handed, kept)
    again = ask(*handed)
    test.assertEqual(again, answer)
    for part in lists_within(handed):
        part.clear()
    test.assertEqual(again, answer)
    test.assertEqual(ask(*kept), answer)
    return answer


def texts_up_to(signs, most):
    """All texts of some signs that have at most so many, the empty one first."""
    return ["".join(text) for count in range(most + 1) for text in itertools.product(signs, repeat=count)]


def some_scribes(count, seed, words=("", "a", "b", "ab", "ba", "aa")):
    """Small scribes with choices, the same ones each time."""
    source = random.Random(seed)
    for number in range(count):
        rooms = source.randint(1, 3)
        begins = [(source.randrange(rooms), source.choice(words)) for turn in range(source.randint(0, 3))]
        steps = [(source.randrange(rooms), source.choice("ab"), source.choice(words), source.randrange(rooms))
                 for turn in range(source.randint(0, 6))]
        ends = [(source.randrange(rooms), source.choice(words)) for turn in range(source.randint(0, 3))]
        yield ("ab", rooms, list(dict.fromkeys(begins)), list(dict.fromkeys(steps)), list(dict.fromkeys(ends)))


def some_plain_scribes(count, seed, words=("", "a", "b", "ab", "aa", "aba"), most=3):
    """Small plain scribes, the same ones each time."""
    source = random.Random(seed)
    for number in range(count):
        rooms = source.randint(1, most)
        begins = [(source.randrange(rooms), source.choice(words))] if source.random() < 0.95 else []
        steps = [(room, sign, source.choice(words), source.randrange(rooms))
                 for room in range(rooms) for sign in "ba" if source.random() < 0.7]
        ends = [(room, source.choice(words)) for room in range(rooms) if source.random() < 0.6]
        source.shuffle(steps)
        source.shuffle(ends)
        yield ("ba", rooms, begins, steps, ends)


def row_scribe(rooms, word):
    """A plain scribe whose rooms stand in one row, the end at the last one; each step writes the word."""
    steps = [(room, "a", word, room + 1) for room in range(rooms - 1)]
    return ("a", rooms, [(0, "")], steps, [(rooms - 1, "")])


def all_ways(scribe, count):
    """All ways of a scribe with so many steps, found by trying every row."""
    signs, rooms, begins, steps, ends = scribe
    rows = [(begin, [], room) for begin, (room, word) in enumerate(begins)]
    for turn in range(count):
        rows = [(begin, row + [place], step[3])
                for begin, row, room in rows for place, step in enumerate(steps) if step[0] == room]
    return [(begin, row, end)
            for begin, row, room in rows for end, (last, word) in enumerate(ends) if last == room]


def rooms_on_way(scribe, way):
    """The rooms that a way comes through: where it begins, and those that its steps go from and to."""
    rooms = [scribe[2][way[0]][0]]
    for place in way[1]:
        rooms += [scribe[3][place][0], scribe[3][place][3]]
    return set(rooms)


def with_other_numbers(scribe, source):
    """The same scribe with its rooms numbered otherwise and its lists in another order."""
    signs, rooms, begins, steps, ends = scribe
    number = list(range(rooms))
    source.shuffle(number)
    steps = [(number[start], sign, word, number[goal]) for start, sign, word, goal in steps]
    ends = [(number[room], word) for room, word in ends]
    source.shuffle(steps)
    source.shuffle(ends)
    return (signs, rooms, [(number[room], word) for room, word in begins], steps, ends)


def with_rooms_doubled(scribe, source):
    """A scribe with two rooms for each one, and each step going to either of the two."""
    signs, rooms, begins, steps, ends = scribe

    def either(room):
        return room + rooms * source.randrange(2)

    return (
        signs, 2 * rooms,
        [(either(room), word) for room, word in begins],
        [(start + more, sign, word, either(goal)) for start, sign, word, goal in steps for more in (0, rooms)],
        [(room + more, word) for room, word in ends for more in (0, rooms)])


def with_rooms_of_no_use(scribe, source):
    """A scribe with a room more that can't be left, and with one more to which no begin leads."""
    signs, rooms, begins, steps, ends = scribe
    taken = {step[:2] for step in steps}
    lost = [(room, sign, "a", rooms) for room in range(rooms) for sign in signs if (room, sign) not in taken]
    steps = steps + lost + [(rooms, signs[0], "b", rooms)]
    steps += [(rooms + 1, sign, "ab", source.randrange(rooms + 2)) for sign in signs]
    return (signs, rooms + 2, begins, steps, ends + [(rooms + 1, "b")])


def with_letter_later(scribe, room, letter):
    """A scribe that writes a letter behind a room and not ahead of it, or None where it can't."""
    signs, rooms, begins, steps, ends = scribe
    if any(at == room and not word.endswith(letter) for at, word in begins):
        return None
    told = []
    for start, sign, word, goal in steps:
        word = letter + word if start == room else word
        if goal == room and not word.endswith(letter):
            return None
        told.append((start, sign, word[:-1] if goal == room else word, goal))
    begins = [(at, word[:-1] if at == room else word) for at, word in begins]
    return (signs, rooms, begins, told, [(at, letter + word if at == room else word) for at, word in ends])


def with_letter_earlier(scribe, room, letter):
    """A scribe that writes a letter ahead of a room and not behind it, or None where it can't."""
    signs, rooms, begins, steps, ends = scribe
    if any(at == room and not word.startswith(letter) for at, word in ends):
        return None
    told = []
    for start, sign, word, goal in steps:
        word = word + letter if goal == room else word
        if start == room and not word.startswith(letter):
            return None
        told.append((start, sign, word[1:] if start == room else word, goal))
    begins = [(at, word + letter if at == room else word) for at, word in begins]
    return (signs, rooms, begins, told, [(at, word[1:] if at == room else word) for at, word in ends])


def with_words_shifted(scribe, source):
    """A scribe that writes some letters earlier and some later."""
    for turn in range(3 * scribe[1]):
        shift = source.choice([with_letter_later, with_letter_earlier])
        scribe = shift(scribe, source.randrange(scribe[1]), source.choice("ab")) or scribe
    return scribe


def scribe_of_words(signs, words):
    """A plain scribe that writes just the words of a dict, with a room for each beginning of a text."""
    texts = sorted({text[:count] for text in words for count in range(len(text) + 1)} | {""})
    number = texts.index
    steps = [(number(text[:-1]), text[-1], "", number(text)) for text in texts if text]
    return (signs, len(texts), [(number(""), "")], steps, [(number(text), words[text]) for text in words])


def side_by_side(one, other):
    """The scribe of the rooms of both, with the begins, steps and ends of both."""
    more = one[1]
    return (one[0], more + other[1],
            one[2] + [(room + more, word) for room, word in other[2]],
            one[3] + [(start + more, sign, word, goal + more) for start, sign, word, goal in other[3]],
            one[4] + [(room + more, word) for room, word in other[4]])


def two_rounds(one_words, other_words, one_ends, other_ends, begins=("", "")):
    """A scribe of two rounds, a begin at the first room of each; the words of their steps and their ends' words."""
    def single(words, last_words, begin):
        count = len(words)
        steps = [(room, "a", word, (room + 1) % count) for room, word in enumerate(words)]
        return ("a", count, [(0, begin)], steps, list(last_words.items()))

    return side_by_side(single(one_words, one_ends, begins[0]), single(other_words, other_ends, begins[1]))
