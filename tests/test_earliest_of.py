"""Point 16: each letter written as early as can be."""

import unittest

from samples import (ECHO, NO_ROOMS, NOTHING_WRITTEN, PLAIN_MIXED, left_as_it_was, row_scribe, some_plain_scribes,
                     texts_up_to, told_as_own)

from earlyscribe.early import earliest_of, heads_of
from earlyscribe.scribes import is_plain, is_scribe, written_for
from earlyscribe.trims import trimmed_of


class EarliestOf(unittest.TestCase):

    def told(self, scribe, earliest):
        told = left_as_it_was(self, earliest_of, scribe)
        self.assertIs(type(told), tuple)
        self.assertEqual(told, earliest)
        self.assertTrue(is_scribe(told))
        self.assertTrue(is_plain(told))
        self.assertEqual(heads_of(told), [""] * told[1])
        self.assertEqual(earliest_of(told), earliest)

    def test_each_word(self):
        steps = [(1, "b", "z", 2), (0, "a", "x", 1), (0, "b", "xyw", 2), (2, "a", "q", 1)]
        scribe = ("ab", 3, [(0, "o")], steps, [(2, ""), (1, "zw"), (0, "xyw")])
        self.assertEqual(heads_of(scribe), ["x", "z", ""])
        told = [(1, "b", "", 2), (0, "a", "z", 1), (0, "b", "yw", 2), (2, "a", "qz", 1)]
        self.told(scribe, ("ab", 3, [(0, "ox")], told, [(2, ""), (1, "w"), (0, "yw")]))

    def test_one_that_is_the_earliest(self):
        self.told(ECHO, ECHO)

    def test_one_word_alone(self):
        self.told(("a", 1, [(0, "o")], [], [(0, "xyz")]), ("a", 1, [(0, "oxyz")], [], [(0, "")]))
        self.told(("a", 3, [(0, "o")], [(0, "a", "x", 1), (1, "a", "y", 2)], [(2, "z")]),
                  ("a", 3, [(0, "oxyz")], [(0, "a", "", 1), (1, "a", "", 2)], [(2, "")]))

    def test_rounds(self):
        self.told(("a", 1, [(0, "")], [(0, "a", "ab", 0)], [(0, "ababa")]),
                  ("a", 1, [(0, "ababa")], [(0, "a", "ba", 0)], [(0, "")]))
        self.told(("a", 1, [(0, "")], [(0, "a", "", 0)], [(0, "xy")]),
                  ("a", 1, [(0, "xy")], [(0, "a", "", 0)], [(0, "")]))
        self.told(("a", 1, [(0, "")], [(0, "a", "ab", 0)], [(0, "abac")]),
                  ("a", 1, [(0, "aba")], [(0, "a", "ba", 0)], [(0, "c")]))

    def test_rooms_of_no_use_are_left_out(self):
        steps = [(2, "a", "", 1), (1, "b", "y", 0), (0, "a", "xy", 2), (0, "b", "v", 0)]
        self.told(PLAIN_MIXED, ("ba", 3, [(2, "uxy")], steps, [(0, "p"), (1, "q")]))

    def test_a_step_to_a_room_of_no_use_parts_no_words(self):
        steps = [(0, "a", "x", 1), (0, "b", "y", 2), (3, "a", "z", 1)]
        self.told(("ab", 4, [(0, "")], steps, [(1, "w")]), ("ab", 2, [(0, "xw")], [(0, "a", "", 1)], [(1, "")]))

    def test_no_begin_or_nothing_written(self):
        self.told(NO_ROOMS, NO_ROOMS)
        for scribe in NOTHING_WRITTEN:
            self.told(scribe, ("ba", 0, [], [], []))

    def test_told_words_are_as_long_as_they_need(self):
        word = "ab" * 100
        silent = [(room, "a", "", room + 1) for room in range(199)]
        signs, rooms, begins, steps, ends = row_scribe(200, word)
        self.told((signs, rooms, [(0, "c")], steps, [(199, word)]),
                  ("a", 200, [(0, "c" + word * 200)], silent, [(199, "")]))
        self.told((signs, rooms, begins, steps, [(0, ""), (199, "")]),
                  ("a", 200, [(0, "")], [(0, "a", word * 199, 1)] + silent[1:], [(0, ""), (199, "")]))

    def test_a_round_of_two_hundred_rooms(self):
        word = "ab" * 100
        signs, rooms, begins, steps, ends = row_scribe(200, word)
        self.told((signs, rooms, begins, steps + [(199, "a", word, 0)], [(room, word + "a") for room in range(200)]),
                  ("a", 200, [(0, word + "a")], [(room, "a", "ba" * 100, (room + 1) % 200) for room in range(200)],
                   [(room, "") for room in range(200)]))

    def test_small_scribes(self):
        for scribe in some_plain_scribes(500, 31):
            trimmed = trimmed_of(scribe)
            heads = heads_of(trimmed)
            self.told(scribe, (
                trimmed[0], trimmed[1],
                [(room, word + heads[room]) for room, word in trimmed[2]],
                [(start, sign, (word + heads[goal]).removeprefix(heads[start]), goal)
                 for start, sign, word, goal in trimmed[3]],
                [(room, word.removeprefix(heads[room])) for room, word in trimmed[4]]))
            for text in texts_up_to("abc", 4):
                self.assertEqual(written_for(earliest_of(scribe), text), written_for(scribe, text), (scribe, text))

    def test_the_lists_told_are_the_asker_s_own(self):
        for scribe in (ECHO, NO_ROOMS, row_scribe(4, "x")):
            told_as_own(self, earliest_of, scribe)


if __name__ == "__main__":
    unittest.main()
