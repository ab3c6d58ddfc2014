"""Point 25: the scribe that reads and writes from the end."""

import unittest

from samples import (ECHO, MIXED, NO_ROOMS, NOTHING_WRITTEN, left_as_it_was, row_scribe, some_plain_scribes,
                     some_scribes, texts_up_to, told_as_own)

from earlyscribe.mirrors import mirrored
from earlyscribe.scribes import all_written, is_plain, is_scribe, written_for
from earlyscribe.trims import trimmed_of


class Mirrored(unittest.TestCase):

    def test_begins_steps_and_ends(self):
        self.assertEqual(
            left_as_it_was(self, mirrored, ECHO),
            ("ab", 2, [(0, "z"), (1, "")], [(0, "a", "x", 0), (1, "b", "y", 0), (0, "a", "x", 1)], [(0, "o")]))

    def test_lists_stay_in_their_old_orders_and_words_are_turned(self):
        scribe = ("cab", 4,
                  [(3, "pq"), (0, ""), (3, "aab"), (1, "z")],
                  [(2, "b", "xyz", 1), (0, "c", "", 3), (2, "b", "zyx", 1), (1, "a", "aab", 1), (0, "a", "ab", 2)],
                  [(2, "st"), (0, "ts"), (0, "stu"), (3, "")])
        self.assertEqual(
            left_as_it_was(self, mirrored, scribe),
            ("cab", 4,
             [(2, "ts"), (0, "st"), (0, "uts"), (3, "")],
             [(1, "b", "zyx", 2), (3, "c", "", 0), (1, "b", "xyz", 2), (1, "a", "baa", 1), (2, "a", "ba", 0)],
             [(3, "qp"), (0, ""), (3, "baa"), (1, "z")]))

    def test_no_rooms_no_begins_no_steps_no_ends(self):
        self.assertEqual(mirrored(NO_ROOMS), NO_ROOMS)
        self.assertEqual(mirrored(("z", 0, [], [], [])), ("z", 0, [], [], []))
        self.assertEqual(mirrored(("ba", 1, [], [], [])), ("ba", 1, [], [], []))
        self.assertEqual(mirrored(("ba", 3, [(2, "xy")], [], [])), ("ba", 3, [], [], [(2, "yx")]))
        self.assertEqual(mirrored(("ba", 3, [], [], [(2, "xy")])), ("ba", 3, [(2, "yx")], [], []))
        self.assertEqual(mirrored(("ba", 3, [], [(0, "a", "xy", 1)], [])), ("ba", 3, [], [(1, "a", "yx", 0)], []))

    def test_rooms_of_no_use_stay(self):
        told = mirrored(MIXED)
        self.assertEqual(told[:2], ("ba", 9))
        self.assertEqual([len(part) for part in told[2:]], [len(MIXED[4]), len(MIXED[3]), len(MIXED[2])])

    def test_a_plain_one_may_come_to_have_choices(self):
        scribe = ("ab", 2, [(0, "")], [(0, "a", "x", 1), (1, "a", "y", 1)], [(0, ""), (1, "")])
        self.assertTrue(is_plain(scribe))
        self.assertFalse(is_plain(mirrored(scribe)))
        self.assertTrue(is_plain(mirrored(mirrored(scribe))))

    def test_mirrored_of_that_is_the_scribe(self):
        scribes = (list(some_scribes(300, 201)) + list(some_plain_scribes(100, 203)) + list(NOTHING_WRITTEN)
                   + [ECHO, NO_ROOMS, MIXED, row_scribe(200, "ab" * 100)])
        for scribe in scribes:
            told = left_as_it_was(self, mirrored, scribe)
            self.assertTrue(is_scribe(told))
            self.assertEqual(mirrored(told), scribe)

    def test_what_it_writes_for_texts_turned(self):
        count = 0
        for scribe in some_scribes(300, 205):
            scribe = trimmed_of(scribe)
            told = mirrored(scribe)
            for text in texts_up_to("ab", 3):
                words = [word[::-1] for word in all_written(scribe, text)]
                self.assertEqual(all_written(told, text[::-1]), sorted(words), (scribe, text))
                count += words != []
        self.assertGreater(count, 300)

    def test_long_rows_and_words(self):
        scribe = row_scribe(200, "xy" * 100)
        told = mirrored(scribe)
        self.assertEqual(told[3][0], (1, "a", "yx" * 100, 0))
        self.assertEqual(told[2], [(199, "")])
        self.assertEqual(written_for(told, "a" * 199), "yx" * 19900)

    def test_the_lists_told_are_the_asker_s_own(self):
        for scribe in (ECHO, NO_ROOMS, MIXED, ("a", 1, [], [], [])):
            told_as_own(self, mirrored, scribe)


if __name__ == "__main__":
    unittest.main()
