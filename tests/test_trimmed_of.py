"""Point 13: the scribe of the rooms of use alone."""

import unittest

from samples import (ECHO, MIXED, NO_ROOMS, NOTHING_WRITTEN, left_as_it_was, row_scribe, some_scribes, texts_up_to,
                     told_as_own)

from earlyscribe.scribes import all_written, is_scribe
from earlyscribe.trims import trimmed_of, useful_rooms


class TrimmedOf(unittest.TestCase):

    def told(self, scribe, trimmed):
        told = left_as_it_was(self, trimmed_of, scribe)
        self.assertIs(type(told), tuple)
        self.assertEqual(told, trimmed)
        self.assertTrue(is_scribe(told))
        self.assertEqual(trimmed_of(told), trimmed)

    def test_rooms_of_several_kinds(self):
        steps = [(2, "a", "xy", 1), (1, "b", "y", 0), (0, "a", "", 2), (0, "b", "v", 0)]
        self.told(MIXED, ("ba", 3, [(2, "u")], steps, [(0, "p"), (1, "q")]))

    def test_all_rooms_of_use(self):
        self.told(ECHO, ECHO)
        self.told(row_scribe(200, "x"), row_scribe(200, "x"))

    def test_no_room_of_use(self):
        self.told(NO_ROOMS, NO_ROOMS)
        for scribe in NOTHING_WRITTEN:
            self.told(scribe, ("ba", 0, [], [], []))

    def test_the_old_order_stays(self):
        begins = [(3, "b"), (0, "c"), (1, "q"), (3, "a")]
        steps = [(3, "c", "z", 1), (1, "z", "", 3), (3, "c", "a", 1), (0, "c", "", 1), (1, "a", "b", 1)]
        ends = [(1, "z"), (0, "x"), (3, "y"), (1, "a")]
        told = ("zca", 2, [(1, "b"), (0, "q"), (1, "a")],
                [(1, "c", "z", 0), (0, "z", "", 1), (1, "c", "a", 0), (0, "a", "b", 0)], [(0, "z"), (1, "y"), (0, "a")])
        self.told(("zca", 4, begins[:1] + begins[2:], steps, ends), told)
        self.told(("zca", 4, begins, steps, ends),
                  ("zca", 3, [(2, "b"), (0, "c"), (1, "q"), (2, "a")],
                   [(2, "c", "z", 1), (1, "z", "", 2), (2, "c", "a", 1), (0, "c", "", 1), (1, "a", "b", 1)],
                   [(1, "z"), (0, "x"), (2, "y"), (1, "a")]))

    def test_signs_that_no_step_has_stay(self):
        self.told(("qabz", 1, [(0, "")], [], [(0, "")]), ("qabz", 1, [(0, "")], [], [(0, "")]))

    def test_long_words_stay(self):
        word = "ab" * 20000
        scribe = ("a", 2, [(1, word)], [(1, "a", word, 1), (1, "a", "", 0)], [(1, word)])
        self.told(scribe, ("a", 1, [(0, word)], [(0, "a", word, 0)], [(0, word)]))

    def test_two_hundred_rooms(self):
        signs, rooms, begins, steps, ends = row_scribe(200, "x")
        self.told((signs, rooms, [(50, "")], steps, [(149, "")]),
                  ("a", 100, [(0, "")], [(room, "a", "x", room + 1) for room in range(99)], [(99, "")]))

    def test_small_scribes(self):
        for scribe in some_scribes(300, 25):
            told = left_as_it_was(self, trimmed_of, scribe)
            rooms = useful_rooms(scribe)
            number = rooms.index
            self.told(scribe, (
                scribe[0], len(rooms),
                [(number(room), word) for room, word in scribe[2] if room in rooms],
                [(number(start), sign, word, number(goal))
                 for start, sign, word, goal in scribe[3] if start in rooms and goal in rooms],
                [(number(room), word) for room, word in scribe[4] if room in rooms]))
            self.assertEqual(useful_rooms(told), list(range(len(rooms))))
            for text in texts_up_to("abc", 3):
                self.assertEqual(all_written(told, text), all_written(scribe, text), (scribe, text))

    def test_the_lists_told_are_the_asker_s_own(self):
        for scribe in (MIXED, ECHO, NO_ROOMS, row_scribe(3, "x")):
            told_as_own(self, trimmed_of, scribe)


if __name__ == "__main__":
    unittest.main()
