"""Point 27: a scribe for the texts alone for which another one writes some word."""

import copy
import itertools
import unittest

from samples import (ECHO, MIXED, NO_ROOMS, left_as_it_was, refused_with, row_scribe, some_scribes, texts_up_to,
                     told_as_own)

from earlyscribe.errors import OtherSigns, TooMany
from earlyscribe.mirrors import kept_to
from earlyscribe.scribes import all_written, is_scribe
from earlyscribe.trims import trimmed_of


def rooms_alone(signs, rooms):
    """A scribe with so many rooms and nothing else."""
    return (signs, rooms, [], [], [])


def kept_by_the_words(scribe, other):
    """What the document's words make, pair by pair of places, with a look at all that was told already."""
    def number(one, two):
        return one * other[1] + two

    def first_alone(parts):
        return [part for place, part in enumerate(parts) if part not in parts[:place]]

    begins = [(number(one[0], two[0]), one[1]) for one, two in itertools.product(scribe[2], other[2])]
    steps = [(number(one[0], two[0]), one[1], one[2], number(one[3], two[3]))
             for one, two in itertools.product(scribe[3], other[3]) if one[1] == two[1]]
    ends = [(number(one[0], two[0]), one[1]) for one, two in itertools.product(scribe[4], other[4])]
    return (scribe[0], scribe[1] * other[1], first_alone(begins), first_alone(steps), first_alone(ends))


class KeptTo(unittest.TestCase):

    def test_pairs_of_places_in_their_order(self):
        scribe = ("ba", 2, [(1, "x"), (0, "")], [(1, "a", "y", 0), (0, "b", "z", 1), (0, "a", "", 0)],
                  [(0, "p"), (1, "q")])
        other = ("ba", 3, [(2, "r"), (0, "s")], [(2, "a", "t", 0), (0, "b", "u", 1), (0, "a", "v", 1)],
                 [(1, "w"), (0, "o")])
        self.assertEqual(
            left_as_it_was(self, kept_to, scribe, other),
            ("ba", 6,
             [(5, "x"), (3, "x"), (2, ""), (0, "")],
             [(5, "a", "y", 0), (3, "a", "y", 1), (0, "b", "z", 4), (2, "a", "", 0), (0, "a", "", 1)],
             [(1, "p"), (0, "p"), (4, "q"), (3, "q")]))

    def test_of_those_that_are_the_same_the_first_one_alone(self):
        scribe = ("a", 2, [(1, "x"), (0, "x")], [(1, "a", "y", 0), (0, "a", "y", 1)], [(0, "p"), (0, "q")])
        other = ("a", 2, [(1, "s"), (0, ""), (1, ""), (0, "s")],
                 [(0, "a", "t", 1), (1, "a", "", 0), (0, "a", "", 1), (1, "a", "t", 0), (0, "a", "tt", 1)],
                 [(0, "u"), (1, "u"), (0, ""), (1, "uu")])
        self.assertEqual(
            left_as_it_was(self, kept_to, scribe, other),
            ("a", 4,
             [(3, "x"), (2, "x"), (1, "x"), (0, "x")],
             [(2, "a", "y", 1), (3, "a", "y", 0), (0, "a", "y", 3), (1, "a", "y", 2)],
             [(0, "p"), (1, "p"), (0, "q"), (1, "q")]))

    def test_parts_of_the_first_one_that_are_unlike_in_words_alone_stay(self):
        scribe = ("a", 1, [(0, "x"), (0, "y")], [(0, "a", "x", 0), (0, "a", "y", 0)], [(0, "x"), (0, "y")])
        other = ("a", 1, [(0, "p"), (0, "q")], [(0, "a", "p", 0), (0, "a", "q", 0)], [(0, "p"), (0, "q")])
        self.assertEqual(kept_to(scribe, other), scribe)
        self.assertEqual(kept_to(other, scribe), other)

    def test_as_the_words_tell(self):
        scribes = list(some_scribes(400, 221))
        for one, other in zip(scribes, reversed(scribes)):
            told = left_as_it_was(self, kept_to, one, other)
            self.assertTrue(is_scribe(told), told)
            self.assertEqual(told, kept_by_the_words(one, other))
        self.assertEqual(kept_to(MIXED, MIXED), kept_by_the_words(MIXED, MIXED))

    def test_signs_that_one_of_the_two_has_no_step_with(self):
        scribe = ("ab", 1, [(0, "")], [(0, "a", "x", 0)], [(0, "")])
        other = ("ab", 1, [(0, "")], [(0, "b", "x", 0)], [(0, "")])
        self.assertEqual(kept_to(scribe, other), ("ab", 1, [(0, "")], [], [(0, "")]))

    def test_what_it_writes(self):
        scribes = [trimmed_of(scribe) for scribe in some_scribes(400, 223)]
        kept = 0
        left_out = 0
        for one, other in zip(scribes, reversed(scribes)):
            told = kept_to(one, other)
            for text in texts_up_to("ab", 3):
                words = all_written(one, text)
                if all_written(other, text) == []:
                    left_out += words != []
                    words = []
                self.assertEqual(all_written(told, text), words, (one, other, text))
                kept += words != []
        self.assertGreater(kept, 100)
        self.assertGreater(left_out, 100)

    def test_no_rooms_on_either_side(self):
        self.assertEqual(left_as_it_was(self, kept_to, ECHO, NO_ROOMS), NO_ROOMS)
        self.assertEqual(left_as_it_was(self, kept_to, NO_ROOMS, ECHO), NO_ROOMS)
        self.assertEqual(kept_to(NO_ROOMS, NO_ROOMS), NO_ROOMS)
        self.assertEqual(kept_to(NO_ROOMS, rooms_alone("ab", 200)), NO_ROOMS)
        self.assertEqual(kept_to(rooms_alone("ab", 200), NO_ROOMS), NO_ROOMS)

    def test_no_begins_no_steps_no_ends(self):
        self.assertEqual(kept_to(ECHO, rooms_alone("ab", 2)), rooms_alone("ab", 4))
        self.assertEqual(kept_to(rooms_alone("ab", 2), ECHO), rooms_alone("ab", 4))

    def test_other_signs(self):
        for signs in ("ba", "abc", "a", "b", "ac", "z"):
            other = rooms_alone(signs, 1)
            with self.subTest(signs=signs):
                refused_with(self, OtherSigns, kept_to, ECHO, other)
                refused_with(self, OtherSigns, kept_to, other, ECHO)
                refused_with(self, OtherSigns, kept_to, NO_ROOMS, rooms_alone(signs, 0))

    def test_other_signs_go_first(self):
        refused_with(self, OtherSigns, kept_to, rooms_alone("ab", 200), rooms_alone("ba", 200))
        refused_with(self, OtherSigns, kept_to, rooms_alone("ab", 200), rooms_alone("abc", 2))

    def test_too_many_pairs(self):
        for one, other in ((3, 67), (67, 3), (2, 101), (200, 2), (15, 14), (200, 200)):
            with self.subTest(one=one, other=other):
                refused_with(self, TooMany, kept_to, rooms_alone("a", one), rooms_alone("a", other))
                refused_with(self, TooMany, kept_to, row_scribe(one, "x"), row_scribe(other, ""))

    def test_as_many_pairs_as_are_taken(self):
        for one, other in ((1, 200), (200, 1), (2, 100), (10, 20), (14, 14), (3, 66)):
            with self.subTest(one=one, other=other):
                self.assertEqual(kept_to(rooms_alone("a", one), rooms_alone("a", other)), rooms_alone("a", one * other))
        told = kept_to(row_scribe(200, "x"), ("a", 1, [(0, "y")], [(0, "a", "y", 0)], [(0, "y")]))
        self.assertEqual(told, row_scribe(200, "x"))
        told = kept_to(("a", 1, [(0, "y")], [(0, "a", "y", 0)], [(0, "y")]), row_scribe(200, "x"))
        self.assertEqual(all_written(told, "a" * 199), ["y" * 201])
        self.assertEqual(all_written(told, "a" * 198), [])

    def test_many_steps_on_both_sides(self):
        words = ["x" * count for count in range(200)]
        scribe = ("a", 2, [(0, "")], [(0, "a", word, goal) for word in words for goal in (0, 1)], [(1, "")])
        other = ("a", 4, [(0, "")], [(room, "a", "", goal) for room in range(4) for goal in range(4)], [(3, "")])
        told = kept_to(scribe, other)
        self.assertEqual(len(told[3]), 6400)
        # One more time with many steps that are unlike in words alone, which add none.
        loops = [(0, "a", letter + word, 0) for letter in ("", "y") for word in words]
        self.assertEqual(kept_to(told, ("a", 1, [(0, "")], loops, [(0, "")])), told)

    def test_the_lists_told_are_the_asker_s_own(self):
        for one, other in ((ECHO, ECHO), (ECHO, NO_ROOMS), (NO_ROOMS, ECHO), (NO_ROOMS, NO_ROOMS)):
            told_as_own(self, kept_to, one, copy.deepcopy(other))
        told_as_own(self, kept_to, MIXED, ("ba", 1, [(0, "")], [(0, "a", "", 0), (0, "b", "", 0)], [(0, "")]))


if __name__ == "__main__":
    unittest.main()
