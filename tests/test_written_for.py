"""Points 5, 6 and 11: the word that a plain scribe writes for a text."""

import itertools
import unittest

from samples import ECHO, NO_ROOMS, all_ways, left_as_it_was, some_scribes

from earlyscribe.errors import NotPlain
from earlyscribe.scribes import is_plain, walked_by, written_for

TEXTS = ["".join(signs) for count in range(4) for signs in itertools.product("abc", repeat=count)]


class WrittenFor(unittest.TestCase):

    def writes(self, scribe, text, word):
        self.assertEqual(left_as_it_was(self, written_for, scribe, text), word)

    def writes_none(self, scribe, text):
        self.assertIsNone(left_as_it_was(self, written_for, scribe, text))

    def refused(self, scribe, text):
        with self.assertRaises(NotPlain) as caught:
            left_as_it_was(self, written_for, scribe, text)
        self.assertIs(type(caught.exception), NotPlain)

    def test_words(self):
        self.writes(ECHO, "", "oz")
        self.writes(ECHO, "a", "oxz")
        self.writes(ECHO, "b", "oy")
        self.writes(ECHO, "abaab", "oxyxxy")

    def test_none_where_a_step_lacks(self):
        self.writes_none(ECHO, "bb")
        self.writes_none(ECHO, "abba")

    def test_none_where_an_end_lacks(self):
        scribe = ("ab", 2, [(0, "x")], [(0, "a", "", 1), (1, "a", "", 0)], [(0, "")])
        self.writes(scribe, "", "x")
        self.writes_none(scribe, "a")
        self.writes(scribe, "aa", "x")

    def test_the_empty_word_is_not_none(self):
        scribe = ("ab", 1, [(0, "")], [(0, "a", "", 0)], [(0, "")])
        self.writes(scribe, "", "")
        self.writes(scribe, "aaa", "")
        self.writes_none(scribe, "b")

    def test_the_empty_text(self):
        self.writes(("a", 2, [(1, "pq")], [(1, "a", "x", 0)], [(0, "m"), (1, "rs")]), "", "pqrs")
        self.writes_none(("a", 2, [(1, "pq")], [(1, "a", "x", 0)], [(0, "m")]), "")

    def test_letters_that_are_not_signs(self):
        for text in ("c", "ac", "ca", "aca", "x", "zzz"):
            self.writes_none(ECHO, text)

    def test_without_rooms_or_without_a_begin(self):
        for text in ("", "a", "ab", "z"):
            self.writes_none(NO_ROOMS, text)
            self.writes_none(("ab", 1, [], [(0, "a", "x", 0)], [(0, "y")]), text)

    def test_refused_where_the_scribe_is_not_plain(self):
        two_begins = ("a", 1, [(0, ""), (0, "a")], [], [])
        two_steps = ("ab", 2, [(0, "")], [(0, "a", "", 0), (0, "a", "", 1)], [(0, "")])
        two_ends = ("a", 2, [(0, "")], [], [(0, ""), (1, "a"), (1, "b")])
        for scribe in (two_begins, two_steps, two_ends):
            for text in ("", "a", "b", "bb", "z", "az", "a" * 60):
                self.refused(scribe, text)

    def test_texts_of_sixty_signs_and_more(self):
        for count in (60, 1200):
            self.writes(ECHO, "a" * count, "o" + "x" * count + "z")
            self.writes_none(ECHO, "a" * (count - 1) + "c")

    def test_long_words_and_two_hundred_rooms(self):
        word = "ab" * 100
        steps = [(room, "a", word, room + 1) for room in range(199)]
        scribe = ("a", 200, [(0, word)], steps, [(199, word), (60, "z")])
        self.writes(scribe, "a" * 60, word * 61 + "z")
        self.writes(scribe, "a" * 199, word * 201)
        self.writes_none(scribe, "a" * 59)
        self.writes_none(scribe, "a" * 200)

    def test_it_is_what_the_way_writes(self):
        plain = [scribe for scribe in some_scribes(600, 11) if is_plain(scribe)]
        for scribe in plain:
            told = dict(walked_by(scribe, way) for count in range(4) for way in all_ways(scribe, count))
            for text in TEXTS:
                self.assertEqual(written_for(scribe, text), told.get(text), (scribe, text))


if __name__ == "__main__":
    unittest.main()
