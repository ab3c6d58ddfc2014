"""Point 28: the first one of the ways that read a text."""

import unittest

from samples import (ECHO, MIXED, NO_ROOMS, NOTHING_WRITTEN, all_ways, left_as_it_was, row_scribe, some_scribes,
                     texts_up_to, told_as_own)

from earlyscribe.passes import first_way
from earlyscribe.scribes import walked_by, written_for
from earlyscribe.trims import trimmed_of


class FirstWay(unittest.TestCase):

    def way(self, scribe, text):
        """See that a way that reads the text is told, and tell it."""
        told = left_as_it_was(self, first_way, scribe, text)
        self.assertIs(type(told), tuple)
        self.assertEqual([type(part) for part in told], [int, list, int])
        self.assertEqual(walked_by(scribe, told)[0], text)
        return told

    def none(self, scribe, text):
        self.assertIsNone(left_as_it_was(self, first_way, scribe, text))

    def test_a_plain_scribe_has_one_way(self):
        self.assertEqual(self.way(ECHO, ""), (0, [], 0))
        self.assertEqual(self.way(ECHO, "ab"), (0, [0, 1], 1))
        self.assertEqual(self.way(ECHO, "aba"), (0, [0, 1, 2], 0))
        self.none(ECHO, "bb")
        for text in texts_up_to("ab", 6):
            word = written_for(ECHO, text)
            if word is None:
                self.none(ECHO, text)
            else:
                self.assertEqual(walked_by(ECHO, self.way(ECHO, text)), (text, word))

    def test_the_least_begin(self):
        scribe = ("a", 2, [(1, "y"), (0, "z"), (1, "x"), (0, "")], [(0, "a", "", 0)], [(0, ""), (1, "")])
        self.assertEqual(self.way(scribe, ""), (0, [], 1))
        # From room 1 nothing is read.
        self.assertEqual(self.way(scribe, "a"), (1, [0], 0))
        self.assertEqual(self.way(scribe, "aa"), (1, [0, 0], 0))

    def test_the_least_begin_goes_ahead_of_the_least_row(self):
        scribe = ("a", 2, [(1, ""), (0, "")], [(0, "a", "", 0), (1, "a", "", 1)], [(0, ""), (1, "")])
        self.assertEqual(self.way(scribe, "aa"), (0, [1, 1], 1))

    def test_the_least_row(self):
        steps = [(1, "a", "p", 1), (0, "a", "q", 1), (0, "a", "r", 0), (1, "a", "s", 0)]
        scribe = ("a", 2, [(0, "")], steps, [(0, "x"), (1, "y")])
        self.assertEqual(self.way(scribe, "a"), (0, [1], 1))
        self.assertEqual(self.way(scribe, "aaa"), (0, [1, 0, 0], 1))
        # With one end alone the last steps lead there.
        self.assertEqual(self.way(scribe[:4] + ([(0, "x")],), "a"), (0, [2], 0))
        self.assertEqual(self.way(scribe[:4] + ([(0, "x")],), "aaa"), (0, [1, 0, 3], 0))

    def test_the_row_goes_ahead_of_the_end(self):
        scribe = ("a", 3, [(0, "")], [(0, "a", "", 1), (0, "a", "", 2)], [(2, "x"), (1, "y"), (1, "z")])
        self.assertEqual(self.way(scribe, "a"), (0, [0], 1))

    def test_the_least_end(self):
        scribe = ("a", 2, [(1, "")], [], [(0, "w"), (1, "z"), (1, "x"), (1, "")])
        self.assertEqual(self.way(scribe, ""), (0, [], 1))

    def test_steps_that_lead_nowhere_are_left_aside(self):
        # The first step out of room 0 leads to a row that breaks off one step ahead of the text's end.
        steps = [(0, "a", "", 1), (1, "a", "", 2), (2, "a", "", 3), (0, "a", "x", 4), (4, "a", "x", 4)]
        scribe = ("a", 5, [(0, "")], steps, [(4, ""), (2, "y")])
        self.assertEqual(self.way(scribe, "a"), (0, [3], 0))
        self.assertEqual(self.way(scribe, "aa"), (0, [0, 1], 1))
        self.assertEqual(self.way(scribe, "aaa"), (0, [3, 4, 4], 0))

    def test_none(self):
        for scribe in (NO_ROOMS,) + NOTHING_WRITTEN:
            for text in ("", "a", "b", "ab", "z"):
                self.none(scribe, text)
        self.none(("a", 1, [], [(0, "a", "", 0)], [(0, "")]), "")
        self.none(("a", 1, [(0, "")], [(0, "a", "", 0)], []), "a")
        self.none(MIXED, "")

    def test_letters_that_are_no_signs(self):
        for text in ("c", "ac", "ca", "aca", "z", "abz"):
            self.none(ECHO, text)
        everywhere = ("ab", 1, [(0, "")], [(0, "a", "", 0), (0, "b", "", 0)], [(0, "")])
        self.assertEqual(self.way(everywhere, "abba"), (0, [0, 1, 1, 0], 0))
        self.none(everywhere, "abca")
        self.none(everywhere, "abbac")

    def test_the_first_of_all_ways(self):
        count = 0
        for scribe in list(some_scribes(400, 241)) + [trimmed_of(scribe) for scribe in some_scribes(200, 243)]:
            for most in range(4):
                by_text = {}
                for way in sorted(all_ways(scribe, most)):
                    by_text.setdefault(walked_by(scribe, way)[0], way)
                for text in [text for text in texts_up_to("ab", most) if len(text) == most]:
                    self.assertEqual(first_way(scribe, text), by_text.get(text), (scribe, text))
                count += len(by_text)
        self.assertGreater(count, 500)

    def test_long_texts_with_very_many_ways(self):
        rooms = range(8)
        steps = [(start, "a", "x" * goal, goal) for start in rooms for goal in rooms]
        marks = [(room, "") for room in rooms]
        self.assertEqual(self.way(("a", 8, marks, steps, marks), "a" * 60), (0, [0] * 60, 0))
        self.assertEqual(self.way(("a", 8, marks[3:], steps, marks[5:]), "a" * 60), (0, [24] + [0] * 58 + [5], 0))
        # An end beyond a step that the last sign alone has.
        scribe = ("ab", 9, marks[3:], steps + [(7, "b", "", 8)], [(8, "")])
        self.assertEqual(self.way(scribe, "a" * 59 + "b"), (0, [24] + [0] * 57 + [7, 64], 0))
        self.none(scribe, "a" * 60)
        self.none(scribe, "a" * 58 + "bb")

    def test_two_hundred_rooms(self):
        scribe = row_scribe(200, "x")
        self.assertEqual(self.way(scribe, "a" * 199), (0, list(range(199)), 0))
        self.none(scribe, "a" * 198)
        self.none(scribe, "a" * 200)
        # Each room leads to the next one and to the one behind that.
        steps = [(room, "a", "", room + more) for more in (2, 1) for room in range(200 - more)]
        scribe = ("a", 200, [(room, "") for room in range(100, 200)], steps, [(199, "")])
        told = self.way(scribe, "a" * 60)
        self.assertEqual(told, (0, list(range(100, 178, 2)) + list(range(376, 397)), 0))

    def test_longer_texts(self):
        steps = [(0, "a", "", 0), (0, "a", "", 1), (1, "b", "", 0)]
        scribe = ("ab", 2, [(0, "")], steps, [(0, "")])
        self.assertEqual(self.way(scribe, "aab" * 700), (0, [0, 1, 2] * 700, 0))

    def test_the_row_told_is_the_asker_s_own(self):
        told_as_own(self, first_way, ECHO, "")
        told_as_own(self, first_way, ECHO, "aba")
        told_as_own(self, first_way, ECHO, "bb")

    def test_a_scribe_changed_later_is_asked_anew(self):
        scribe = ("a", 1, [(0, "")], [(0, "a", "x", 0)], [(0, "")])
        self.assertEqual(self.way(scribe, "a"), (0, [0], 0))
        scribe[3].insert(0, (0, "a", "y", 0))
        self.assertEqual(walked_by(scribe, self.way(scribe, "a")), ("a", "y"))
        scribe[4].clear()
        self.none(scribe, "a")


if __name__ == "__main__":
    unittest.main()
