"""Point 26: the scribe of the rooms of both."""

import copy
import unittest

from samples import (ECHO, MIXED, NO_ROOMS, left_as_it_was, refused_with, row_scribe, some_scribes, texts_up_to,
                     told_as_own)

from earlyscribe.errors import OtherSigns, TooMany
from earlyscribe.mirrors import either_of
from earlyscribe.scribes import all_written, is_scribe
from earlyscribe.trims import trimmed_of


def rooms_alone(signs, rooms):
    """A scribe with so many rooms and nothing else."""
    return (signs, rooms, [], [], [])


class EitherOf(unittest.TestCase):

    def test_one_s_and_then_other_s(self):
        one = ("ba", 3, [(2, "x"), (0, "")], [(2, "b", "y", 0), (0, "a", "", 1)], [(1, "z"), (0, "p")])
        other = ("ba", 2, [(1, ""), (0, "q")], [(1, "a", "r", 0), (0, "a", "", 0)], [(0, ""), (1, "s")])
        self.assertEqual(
            left_as_it_was(self, either_of, one, other),
            ("ba", 5,
             [(2, "x"), (0, ""), (4, ""), (3, "q")],
             [(2, "b", "y", 0), (0, "a", "", 1), (4, "a", "r", 3), (3, "a", "", 3)],
             [(1, "z"), (0, "p"), (3, ""), (4, "s")]))
        self.assertEqual(
            left_as_it_was(self, either_of, other, one),
            ("ba", 5,
             [(1, ""), (0, "q"), (4, "x"), (2, "")],
             [(1, "a", "r", 0), (0, "a", "", 0), (4, "b", "y", 2), (2, "a", "", 3)],
             [(0, ""), (1, "s"), (3, "z"), (2, "p")]))

    def test_the_same_scribe_twice(self):
        told = left_as_it_was(self, either_of, ECHO, ECHO)
        self.assertEqual(
            told,
            ("ab", 4, [(0, "o"), (2, "o")],
             [(0, "a", "x", 0), (0, "b", "y", 1), (1, "a", "x", 0),
              (2, "a", "x", 2), (2, "b", "y", 3), (3, "a", "x", 2)],
             [(0, "z"), (1, ""), (2, "z"), (3, "")]))
        self.assertEqual(all_written(told, "ab"), ["oxy"])

    def test_no_rooms_on_either_side(self):
        self.assertEqual(left_as_it_was(self, either_of, ECHO, NO_ROOMS), ECHO)
        self.assertEqual(left_as_it_was(self, either_of, NO_ROOMS, ECHO), ECHO)
        self.assertEqual(either_of(NO_ROOMS, NO_ROOMS), NO_ROOMS)
        self.assertEqual(either_of(rooms_alone("ab", 3), ECHO)[:3], ("ab", 5, [(3, "o")]))
        self.assertEqual(either_of(ECHO, rooms_alone("ab", 3)), ("ab", 5) + ECHO[2:])
        self.assertEqual(either_of(rooms_alone("ab", 200), NO_ROOMS), rooms_alone("ab", 200))
        self.assertEqual(either_of(NO_ROOMS, rooms_alone("ab", 200)), rooms_alone("ab", 200))

    def test_what_it_writes(self):
        scribes = [trimmed_of(scribe) for scribe in some_scribes(300, 211)]
        both = 0
        for one, other in zip(scribes, reversed(scribes)):
            told = left_as_it_was(self, either_of, one, other)
            self.assertTrue(is_scribe(told))
            for text in texts_up_to("ab", 3):
                ones = all_written(one, text)
                others = all_written(other, text)
                self.assertEqual(all_written(told, text), sorted(set(ones + others)))
                both += ones != [] and others != [] and ones != others
        self.assertGreater(both, 100)

    def test_other_signs(self):
        for signs in ("ba", "abc", "a", "b", "ac", "z"):
            other = rooms_alone(signs, 1)
            with self.subTest(signs=signs):
                refused_with(self, OtherSigns, either_of, ECHO, other)
                refused_with(self, OtherSigns, either_of, other, ECHO)
                refused_with(self, OtherSigns, either_of, NO_ROOMS, rooms_alone(signs, 0))

    def test_other_signs_go_first(self):
        refused_with(self, OtherSigns, either_of, rooms_alone("ab", 200), rooms_alone("ba", 200))
        refused_with(self, OtherSigns, either_of, rooms_alone("ab", 200), rooms_alone("abc", 1))

    def test_too_many_rooms(self):
        for one, other in ((200, 1), (1, 200), (100, 101), (101, 100), (200, 200), (199, 2)):
            with self.subTest(one=one, other=other):
                refused_with(self, TooMany, either_of, rooms_alone("a", one), rooms_alone("a", other))
                refused_with(self, TooMany, either_of, row_scribe(one, "x"), row_scribe(other, ""))

    def test_as_many_rooms_as_are_taken(self):
        for one, other in ((200, 0), (0, 200), (199, 1), (1, 199), (100, 100), (2, 198)):
            with self.subTest(one=one, other=other):
                self.assertEqual(either_of(rooms_alone("a", one), rooms_alone("a", other)), rooms_alone("a", 200))
        told = either_of(row_scribe(100, "x"), row_scribe(100, ""))
        self.assertEqual(told[1], 200)
        self.assertEqual(all_written(told, "a" * 99), ["", "x" * 99])
        self.assertTrue(is_scribe(told))

    def test_the_lists_told_are_the_asker_s_own(self):
        for one, other in ((ECHO, ECHO), (ECHO, NO_ROOMS), (NO_ROOMS, ECHO), (NO_ROOMS, NO_ROOMS)):
            told_as_own(self, either_of, one, copy.deepcopy(other))
        told_as_own(self, either_of, MIXED, rooms_alone("ba", 2))


if __name__ == "__main__":
    unittest.main()
