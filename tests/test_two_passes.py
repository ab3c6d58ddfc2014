"""Points 21 and 29 to 31: two plain scribes that settle which word is written, the first one from the end."""

import string
import unittest

from samples import (ECHO, NO_ROOMS, left_as_it_was, refused_with, row_scribe, some_plain_scribes, some_scribes,
                     texts_up_to, told_as_own)

from earlyscribe.errors import TooMany
from earlyscribe.passes import first_way, two_passes
from earlyscribe.scribes import is_plain, is_scribe, walked_by, written_for


def ring_with_chord(signs, end):
    """A ring of six rooms with one step across: from the end there are 22, 23, 24 .. sets, for an end at 2, 3, 4 .."""
    steps = [(room, "a", "", (room + 1) % 6) for room in range(6)] + [(0, "a", "x", 2)]
    return (signs, 6, [(0, "")], steps, [(end, "")])


def passes_by_the_words(scribe):
    """Both scribes as the document's words make them, with Python's own sets; None where letters or rooms lack."""
    signs, rooms, begins, steps, ends = scribe
    sets = [frozenset(room for room, word in ends)] if ends else []
    back_steps = []
    for number, goals in enumerate(sets):
        for sign in signs:
            starts = frozenset(step[0] for step in steps if step[1] == sign and step[3] in goals)
            if starts:
                if starts not in sets:
                    sets.append(starts)
                back_steps.append((number, sign, sets.index(starts)))
    letters = [letter for letter in string.ascii_lowercase if letter not in signs]
    if len(sets) > len(letters):
        return None
    if not sets:
        return (signs, 0, [], [], []), (signs, 0, [], [], [])
    letters = letters[:len(sets)]
    back = (signs, len(sets), [(0, "")], [(one, sign, letters[one] + sign, two) for one, sign, two in back_steps],
            [(number, letters[number]) for number, goals in enumerate(sets)
             if any(room in goals for room, word in begins)])
    forth_signs = "".join(letters) + signs

    def move(place, sign):
        """The word and the next place, or None; a place is a tuple (), (room,) or (room, sign)."""
        into = sets[letters.index(sign)] if sign in letters else None
        if len(place) == 0 and into is not None:
            return next(((word, (room,)) for room, word in begins if room in into), None)
        if len(place) == 1 and into is None:
            into = frozenset().union(*sets)
            there = any(step[:2] == (place[0], sign) and step[3] in into for step in steps)
            return ("", (place[0], sign)) if there else None
        if len(place) == 2 and into is not None:
            return next((step[2:3] + (step[3:],) for step in steps if step[:2] == place and step[3] in into), None)
        return None

    places = [()]
    forth_steps = []
    for number, place in enumerate(places):
        for sign in forth_signs:
            told = move(place, sign)
            if told is not None:
                if told[1] not in places:
                    places.append(told[1])
                forth_steps.append((number, sign, told[0], places.index(told[1])))
    if len(places) > 200:
        return None
    forth_ends = [(number, next(word for room, word in ends if (room,) == place))
                  for number, place in enumerate(places) if any((room,) == place for room, word in ends)]
    return back, (forth_signs, len(places), [(0, "")], forth_steps, forth_ends)


class TwoPasses(unittest.TestCase):

    def both(self, scribe):
        """See that two plain scribes are told, and tell them."""
        told = left_as_it_was(self, two_passes, scribe)
        self.assertIs(type(told), tuple)
        self.assertEqual(len(told), 2)
        for one in told:
            self.assertTrue(is_scribe(one), one)
            self.assertTrue(is_plain(one), one)
        return told

    def settled(self, scribe, texts):
        """See that for each text the two write what the first way writes; tell for how many there is one."""
        back, forth = self.both(scribe)
        count = 0
        for text in texts:
            way = first_way(scribe, text)
            word = written_for(back, text[::-1])
            if way is None:
                self.assertIsNone(word, (scribe, text))
            else:
                self.assertEqual(written_for(forth, word[::-1]), walked_by(scribe, way)[1], (scribe, text))
                count += 1
        return count

    def refused(self, scribe):
        refused_with(self, TooMany, two_passes, scribe)

    def test_the_making(self):
        scribe = ("ba", 3, [(0, "x"), (1, "y")],
                  [(0, "a", "p", 0), (0, "a", "q", 2), (1, "b", "r", 2), (0, "b", "s", 1)], [(2, "e"), (2, "f")])
        back, forth = self.both(scribe)
        # The sets are {2}, {1} and {0}, with the letters c, d and e.
        self.assertEqual(
            back,
            ("ba", 3, [(0, "")], [(0, "b", "cb", 1), (0, "a", "ca", 2), (1, "b", "db", 2), (2, "a", "ea", 2)],
             [(1, "d"), (2, "e")]))
        # Its rooms are the first one, those for 1 and 0, those for 1 and b, 0 and b, 0 and a, and that for 2.
        self.assertEqual(
            forth,
            ("cdeba", 7, [(0, "")],
             [(0, "d", "y", 1), (0, "e", "x", 2), (1, "b", "", 3), (2, "b", "", 4), (2, "a", "", 5), (3, "c", "r", 6),
              (4, "d", "s", 1), (5, "c", "q", 6), (5, "e", "p", 2)],
             [(6, "e")]))
        self.assertIsNone(written_for(back, "baa"))
        self.assertEqual(written_for(back, "aa"), "caeae")
        self.assertEqual(written_for(forth, "eaeac"), "xpqe")
        self.assertEqual(self.settled(scribe, texts_up_to("ab", 7)), 14)

    def test_the_order_of_signs(self):
        steps = [(0, "a", "p", 1), (0, "b", "q", 2), (1, "b", "", 0), (2, "a", "", 0), (1, "a", "r", 2)]
        one = ("ab", 3, [(0, "")], steps, [(0, "")])
        other = ("ba",) + one[1:]
        # {0}, then by a {2} and by b {1}; with the signs the other way about {1} comes first.
        self.assertEqual(
            two_passes(one)[0],
            ("ab", 3, [(0, "")],
             [(0, "a", "ca", 1), (0, "b", "cb", 2), (1, "a", "da", 2), (1, "b", "db", 0), (2, "a", "ea", 0)],
             [(0, "c")]))
        self.assertEqual(
            two_passes(other)[0],
            ("ba", 3, [(0, "")],
             [(0, "b", "cb", 1), (0, "a", "ca", 2), (1, "a", "da", 0), (2, "b", "eb", 0), (2, "a", "ea", 1)],
             [(0, "c")]))
        self.assertEqual(two_passes(one)[1][0], "cdeab")
        self.assertEqual(two_passes(other)[1][0], "cdeba")
        for scribe in (one, other):
            self.assertEqual(two_passes(scribe), passes_by_the_words(scribe))
            self.assertGreater(self.settled(scribe, texts_up_to("ab", 7)), 20)

    def test_letters_that_are_no_signs(self):
        steps = [(0, "c", "", 1), (1, "a", "", 2), (2, "e", "", 0)]
        back, forth = self.both(("eca", 3, [(0, "")], steps, [(0, "")]))
        self.assertEqual(back, ("eca", 3, [(0, "")], [(0, "e", "be", 1), (1, "a", "da", 2), (2, "c", "fc", 0)],
                                [(0, "b")]))
        self.assertEqual(forth[0], "bdfeca")
        self.assertEqual(written_for(forth, "bcfadeb"), "")

    def test_sets_of_several_rooms(self):
        scribe = ("a", 3, [(2, "u"), (0, "v")], [(0, "a", "p", 1), (0, "a", "q", 2), (2, "a", "r", 1)],
                  [(1, "x"), (2, "y"), (1, "z")])
        # {1, 2} is b, {0, 2} is c, {0} is d.
        self.assertEqual(
            self.both(scribe),
            (("a", 3, [(0, "")], [(0, "a", "ba", 1), (1, "a", "ca", 2)], [(0, "b"), (1, "c"), (2, "d")]),
             ("bcda", 6, [(0, "")],
              [(0, "b", "u", 1), (0, "c", "u", 1), (0, "d", "v", 2), (1, "a", "", 3), (2, "a", "", 4),
               (3, "b", "r", 5), (4, "b", "p", 5), (4, "c", "q", 1)],
              [(1, "y"), (5, "x")])))
        self.assertEqual(self.settled(scribe, texts_up_to("a", 5)), 3)

    def test_first_begins_steps_and_ends(self):
        scribe = ("a", 2, [(0, "y"), (0, "x"), (1, "")],
                  [(0, "a", "q", 1), (0, "a", "p", 1), (0, "a", "", 0), (1, "a", "s", 0), (1, "a", "r", 0)],
                  [(1, "w"), (1, "v"), (0, "u"), (0, "")])
        self.assertEqual(
            self.both(scribe),
            (("a", 1, [(0, "")], [(0, "a", "ba", 0)], [(0, "b")]),
             ("ba", 5, [(0, "")],
              [(0, "b", "y", 1), (1, "a", "", 2), (2, "b", "q", 3), (3, "a", "", 4), (4, "b", "s", 1)],
              [(1, "u"), (3, "w")])))
        self.assertEqual(self.settled(scribe, texts_up_to("a", 6)), 7)

    def test_rooms_that_are_alike_stay_apart(self):
        scribe = ("a", 2, [(0, ""), (1, "")], [(0, "a", "x", 1), (1, "a", "x", 0)], [(0, ""), (1, "")])
        forth = self.both(scribe)[1]
        self.assertEqual(forth[1], 5)
        self.assertEqual(forth[3], [(0, "b", "", 1), (1, "a", "", 2), (2, "b", "x", 3), (3, "a", "", 4),
                                    (4, "b", "x", 1)])

    def test_rooms_as_they_are_handed_in(self):
        # Room 1 has an end but no begin leads there, and yet it is in the first set; room 2 leads to no end.
        scribe = ("ab", 3, [(2, "x"), (0, "")], [(0, "a", "p", 2), (0, "a", "q", 0), (1, "b", "", 1), (2, "a", "", 2)],
                  [(1, ""), (0, "y")])
        self.assertEqual(
            self.both(scribe),
            (("ab", 3, [(0, "")],
              [(0, "a", "ca", 1), (0, "b", "cb", 2), (1, "a", "da", 1), (2, "b", "eb", 2)], [(0, "c"), (1, "d")]),
             ("cdeab", 3, [(0, "")],
              [(0, "c", "", 1), (0, "d", "", 1), (1, "a", "", 2), (2, "c", "q", 1), (2, "d", "q", 1)], [(1, "y")])))

    def test_no_room_has_an_end(self):
        for signs in ("ab", "ba", "z", string.ascii_lowercase):
            nothing = (signs, 0, [], [], [])
            sign = signs[0]
            for scribe in (nothing, (signs, 8, [], [], []), (signs, 2, [(0, "x")], [(0, sign, "y", 1)], []),
                           (signs, 8, [(7, "x"), (7, "y")], [(7, sign, "y", 7), (7, sign, "x", 7)], [])):
                self.assertEqual(self.both(scribe), (nothing, nothing))

    def test_ends_and_no_begins(self):
        scribe = ("ab", 2, [], [(0, "a", "x", 1), (1, "b", "y", 1)], [(1, "z")])
        self.assertEqual(
            self.both(scribe),
            (("ab", 2, [(0, "")], [(0, "a", "ca", 1), (0, "b", "cb", 0)], []),
             ("cdab", 1, [(0, "")], [], [])))
        self.assertEqual(self.settled(scribe, texts_up_to("ab", 3)), 0)

    def test_an_end_and_nothing_else(self):
        self.assertEqual(self.both(("b", 1, [], [], [(0, "x")])),
                         (("b", 1, [(0, "")], [], []), ("ab", 1, [(0, "")], [], [])))
        self.assertEqual(self.both(("b", 1, [(0, "y")], [], [(0, "x")])),
                         (("b", 1, [(0, "")], [], [(0, "a")]), ("ab", 2, [(0, "")], [(0, "a", "y", 1)], [(1, "x")])))

    def test_plain_scribes(self):
        self.assertEqual(two_passes(NO_ROOMS), (NO_ROOMS, NO_ROOMS))
        self.settled(ECHO, texts_up_to("ab", 6))
        for scribe in some_plain_scribes(200, 251):
            back, forth = two_passes(scribe)
            for text in texts_up_to("ab", 4):
                word = written_for(back, text[::-1])
                self.assertEqual(None if word is None else written_for(forth, word[::-1]), written_for(scribe, text))

    def test_small_scribes(self):
        count = 0
        for scribe in some_scribes(600, 253):
            self.assertEqual(self.both(scribe), passes_by_the_words(scribe), scribe)
            count += self.settled(scribe, texts_up_to("ab", 4))
        self.assertGreater(count, 1000)

    def test_larger_scribes(self):
        refused = 0
        for number, scribe in enumerate(some_plain_scribes(300, 255, most=8)):
            signs, rooms, begins, steps, ends = scribe
            # A begin and some steps more, so that there are choices.
            more = [(room, "ab"[room % 2], "x", (room * number + 3) % rooms) for room in range(0, rooms, 2)]
            scribe = (signs, rooms, begins + [(number % rooms, "xy")], steps + more, ends + [(0, "yx")])
            made = passes_by_the_words(scribe)
            if made is None:
                self.refused(scribe)
                refused += 1
            else:
                self.assertEqual(self.both(scribe), made)
                self.settled(scribe, texts_up_to("ab", 4))
        self.assertGreater(refused, 10)
        self.assertLess(refused, 200)

    def test_long_texts(self):
        # Whether a p or a q is written at each a is told by the last sign alone.
        steps = [(0, "a", "p", 0), (1, "a", "q", 1), (0, "b", "", 2), (1, "c", "", 2)]
        scribe = ("abc", 3, [(0, ""), (1, "")], steps, [(2, "")])
        for last in "abc":
            self.settled(scribe, ["a" * count + last for count in range(60)])
        back, forth = two_passes(scribe)
        self.assertEqual(written_for(forth, written_for(back, "c" + "a" * 500)[::-1]), "q" * 500)

    def test_too_many_rooms(self):
        for rooms in (9, 10, 200):
            for scribe in (("a", rooms, [], [], []),
                           row_scribe(rooms, "x"),
                           ("a", rooms, [(0, "")], [], [(0, "")]),
                           ("a", rooms, [(0, ""), (0, "x")], [], [(0, "")]),
                           ("a", rooms, [(8, ""), (8, "x")], [(8, "a", "", 8)], [(8, "")]),
                           ("ab", rooms, [(0, ""), (1, "")],
                            [(0, "a", "x", 0), (1, "a", "y", 1), (0, "b", "", 0)], [(0, ""), (1, "z")])):
                with self.subTest(rooms=rooms):
                    self.refused(scribe)
        for rooms in range(1, 9):
            self.assertEqual(two_passes(("a", rooms, [], [], [])), (("a", 0, [], [], []), ("a", 0, [], [], [])))
            self.assertEqual(self.settled(row_scribe(rooms, "x"), ["a" * (rooms - 1), "a" * rooms]), 1)

    def test_no_letter_for_the_one_set(self):
        signs = string.ascii_lowercase
        self.refused((signs, 1, [], [], [(0, "")]))
        self.refused((signs[::-1], 1, [(0, "")], [(0, "a", "", 0)], [(0, "")]))
        self.refused((signs, 8, [(0, "x")], [], [(7, "")]))
        for place, letter in enumerate(signs):
            others = signs[:place] + signs[place + 1:]
            back, forth = self.both((others, 1, [(0, "")], [(0, others[0], "", 0)], [(0, "")]))
            self.assertEqual(back[4], [(0, letter)])
            self.assertEqual(forth[0], letter + others)
        # Two sets, and one letter for both.
        self.refused((signs[1:], 2, [(0, "")], [(0, "b", "", 1)], [(1, "")]))
        self.both((signs[2:], 2, [(0, "")], [(0, "c", "", 1)], [(1, "")]))

    def test_as_many_sets_as_letters(self):
        for signs, end in (("abcd", 2), ("abc", 3), ("dca", 3), ("ab", 4)):
            with self.subTest(signs=signs):
                scribe = ring_with_chord(signs, end)
                back, forth = self.both(scribe)
                self.assertEqual(back[1], 26 - len(signs))
                self.assertEqual(forth[0][-len(signs):], signs)
                self.assertEqual((back, forth), passes_by_the_words(scribe))
                self.assertGreater(self.settled(scribe, ["a" * count for count in range(60)]), 30)
        for signs, end in (("abcde", 2), ("abcd", 3), ("abc", 4), ("dca", 4), ("dcba", 4), ("abcdefgh", 2)):
            with self.subTest(signs=signs):
                self.refused(ring_with_chord(signs, end))

    def test_very_many_sets(self):
        # Three signs with which all sets of eight rooms can be come to.
        turn = [(room, "a", "", (room + 1) % 8) for room in range(8)]
        swap = [(0, "b", "", 1), (1, "b", "", 0)] + [(room, "b", "", room) for room in range(2, 8)]
        join = [(room, "c", "", room) for room in range(8)] + [(0, "c", "", 1)]
        self.refused(("abc", 8, [(0, "")], turn + swap + join, [(0, "")]))

    def full(self, signs, lacking):
        """A scribe of eight rooms with a step out of each with each sign, but for the last sign and some rooms."""
        first = [(room, signs[0], "x", (room + 1) % 8) for room in range(8)]
        others = [(room, signs[0], "y", goal) for room in range(8) for goal in range(8) if goal != (room + 1) % 8]
        loops = [(room, sign, "z", room) for sign in signs[1:-1] for room in range(8)]
        last = [(room, signs[-1], "", room) for room in range(8) if room not in lacking]
        return (signs, 8, [(0, "")], first + others + loops + last, [(room, "") for room in range(8)])

    def test_as_many_rooms_of_forth_as_a_scribe_has(self):
        signs = string.ascii_lowercase[2:]
        # One room to begin in, eight, and eight for each of 24 signs: with one such step lacking, 200.
        self.refused(self.full(signs, []))
        for room in range(8):
            scribe = self.full(signs, [room])
            back, forth = self.both(scribe)
            self.assertEqual(forth[1], 200)
            self.assertEqual(back[1], 2)
            self.assertEqual((back, forth), passes_by_the_words(scribe))
        self.assertEqual(self.both(self.full(signs, [3, 4]))[1][1], 199)
        self.assertEqual(self.both(self.full(signs[1:], []))[1][1], 193)
        self.assertEqual(self.both(self.full(signs[::-1], [5]))[1][1], 200)
        self.refused(self.full(string.ascii_lowercase[1:], []))

    def test_rooms_that_forth_does_not_come_to_are_not_counted(self):
        signs = string.ascii_lowercase[2:]
        scribe = self.full(signs, [])
        # Without a begin there is but the first room; with steps into one's own room alone there is one more for each.
        self.assertEqual(self.both(scribe[:2] + ([],) + scribe[3:])[1][1], 1)
        loops = [(room, sign, "", room) for sign in signs for room in range(8)]
        self.assertEqual(self.both(scribe[:3] + (loops,) + scribe[4:])[1][1], 26)

    def test_more_steps_than_are_handed_in_at_first(self):
        words = ["x" * count for count in range(100)]
        steps = [(start, sign, word, goal)
                 for start in range(8) for goal in range(8) for sign in "ab" for word in words]
        scribe = ("ab", 8, [(3, "")], steps, [(5, word) for word in words])
        self.assertEqual(self.settled(scribe, ["", "a", "ab", "ba" * 30]), 3)

    def test_the_lists_told_are_the_asker_s_own(self):
        for scribe in (ECHO, NO_ROOMS, ("a", 2, [(0, "")], [(0, "a", "x", 1)], []), ring_with_chord("abc", 3)):
            told_as_own(self, two_passes, scribe)


if __name__ == "__main__":
    unittest.main()
