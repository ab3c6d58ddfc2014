"""Points 5 and 11: all words that a scribe writes for a text."""

import itertools
import unittest

from samples import ECHO, NO_ROOMS, all_ways, left_as_it_was, some_scribes

from earlyscribe.errors import TooMany
from earlyscribe.scribes import all_written, is_plain, walked_by, written_for

TEXTS = ["".join(signs) for count in range(4) for signs in itertools.product("abc", repeat=count)]

# Ten words for each a, told apart by one letter: a thousand pairs for aaa.
TENFOLD = [(0, "a", letter, 0) for letter in "abcdefghij"]

THOUSAND = ("abc", 2, [(0, "")], TENFOLD + [(1, "b", "", 1)], [(0, "")])

# One pair more, at a room with no end.
ONE_MORE = ("abc", 2, [(0, ""), (1, "")], TENFOLD + [(1, "a", "", 1)], [(0, "")])


class AllWritten(unittest.TestCase):

    def writes(self, scribe, text, words):
        told = left_as_it_was(self, all_written, scribe, text)
        self.assertIs(type(told), list)
        self.assertEqual(told, words)

    def refused(self, scribe, text):
        with self.assertRaises(TooMany) as caught:
            left_as_it_was(self, all_written, scribe, text)
        self.assertIs(type(caught.exception), TooMany)

    def test_ascending(self):
        begins = [(0, "b"), (0, "ab"), (0, ""), (0, "abc"), (0, "a"), (0, "z"), (0, "ba"), (0, "az")]
        self.writes(("a", 1, begins, [], [(0, "")]), "", ["", "a", "ab", "abc", "az", "b", "ba", "z"])

    def test_choices_of_begins_steps_and_ends(self):
        scribe = ("ab", 3, [(0, "p"), (1, "q")], [(0, "a", "x", 2), (0, "a", "y", 2), (1, "a", "z", 1)],
                  [(2, "r"), (2, "s"), (1, "")])
        self.writes(scribe, "a", ["pxr", "pxs", "pyr", "pys", "qz"])
        self.writes(scribe, "aa", ["qzz"])
        self.writes(scribe, "", ["q"])
        self.writes(scribe, "b", [])

    def test_each_word_once_though_several_ways_write_it(self):
        self.writes(("a", 2, [(0, "x"), (1, "x")], [], [(0, ""), (1, "")]), "", ["x"])
        self.writes(("a", 1, [(0, "x"), (0, "xx")], [], [(0, "x"), (0, "")]), "", ["x", "xx", "xxx"])
        steps = [(0, "a", "x", 0), (0, "a", "xx", 0), (0, "a", "x", 1), (1, "a", "xx", 0)]
        self.writes(("a", 2, [(0, "")], steps, [(0, ""), (1, "")]), "aa", ["xx", "xxx", "xxxx"])

    def test_no_word(self):
        self.writes(NO_ROOMS, "", [])
        self.writes(NO_ROOMS, "ab", [])
        self.writes(("ab", 1, [], [(0, "a", "", 0)], [(0, "")]), "a", [])
        self.writes(("ab", 1, [(0, "")], [(0, "a", "", 0)], []), "a", [])
        self.writes(ECHO, "bb", [])

    def test_the_empty_word(self):
        self.writes(("a", 1, [(0, "")], [(0, "a", "", 0)], [(0, "")]), "aaa", [""])

    def test_letters_that_are_not_signs(self):
        for text in ("c", "ac", "ca", "aca", "zzz"):
            self.writes(ECHO, text, [])

    def test_a_thousand_pairs_are_told(self):
        words = ["".join(letters) for letters in itertools.product("abcdefghij", repeat=3)]
        self.writes(THOUSAND, "aaa", words)
        self.writes(ONE_MORE, "aa", ["".join(letters) for letters in itertools.product("abcdefghij", repeat=2)])

    def test_one_pair_more_is_refused(self):
        self.refused(ONE_MORE, "aaa")
        self.refused(THOUSAND, "aaaa")
        self.refused(("a", 1, [(0, ""), (0, "zzzz")], TENFOLD[:], [(0, "")]), "aaa")

    def test_more_words_than_pairs_are_told(self):
        scribe = ("a", 1, [(0, "")], TENFOLD, [(0, "x"), (0, "y")])
        self.assertEqual(len(all_written(scribe, "aaa")), 2000)

    def test_pairs_at_rooms_of_no_use_count(self):
        # No end can be come to from room 1, and its pairs alone are too many.
        steps = [(1, "a", letter, 1) for letter in "abcdefghij"] + [(0, "a", "x", 0)]
        scribe = ("a", 2, [(0, ""), (1, "")], steps, [(0, "")])
        self.writes(scribe, "aa", ["xx"])
        self.refused(scribe, "aaa")
        self.refused(("a", 2, [(1, "")], steps, []), "aaaa")

    def test_pairs_for_the_whole_text_count_though_they_have_no_end(self):
        self.refused(("a", 1, [(0, "")], TENFOLD, []), "aaaa")
        self.writes(("a", 1, [(0, "")], TENFOLD, []), "aaa", [])

    def test_pairs_for_the_empty_text_count(self):
        begins = [(room, letter) for room in range(100) for letter in "abcdefghij"]
        self.writes(("a", 101, begins, [], [(7, "")]), "", list("abcdefghij"))
        self.writes(("a", 101, begins, [], [(7, "")]), "a", [])
        self.refused(("a", 101, begins + [(100, "")], [], [(7, "")]), "")
        self.refused(("a", 101, begins + [(100, "")], [], [(7, "")]), "a")
        self.refused(("a", 101, begins + [(100, "")], [], [(7, "")]), "z")

    def test_pairs_for_a_beginning_count_though_the_whole_text_has_few(self):
        self.refused(ONE_MORE, "aaab")
        self.refused(ONE_MORE, "aaab" + "a" * 56)
        self.writes(THOUSAND, "aaab", [])

    def test_a_room_and_a_word_count_together(self):
        # Five hundred words at each of two rooms, and then a thousand alike at one.
        begins = [(0, "")]
        steps = [(0, "a", one + other, room) for one in "abcdefghij" for other in "abcdefghij" for room in (1, 2)]
        steps += [(room, "b", letter, room) for room in (1, 2) for letter in "vwxyz"]
        steps += [(1, "c", "", 0), (2, "c", "", 0)]
        scribe = ("abc", 3, begins, steps, [(0, "")])
        self.assertEqual(len(all_written(scribe, "abc")), 500)
        self.refused(("abc", 3, begins + [(1, "")], steps + [(1, "a", "", 1)], [(0, "")]), "ab")

    def test_alike_pairs_count_once(self):
        # Ten ways for each sign, but few lengths of the words.
        steps = [(0, "a", "x" * count, 0) for count in range(1, 11)]
        scribe = ("a", 1, [(0, "")], steps, [(0, "")])
        self.writes(scribe, "a" * 60, ["x" * count for count in range(60, 601)])
        self.assertEqual(len(all_written(scribe, "a" * 111)), 1000)
        self.refused(scribe, "a" * 112)

    def test_pairs_ahead_of_a_letter_that_is_not_a_sign_count(self):
        self.refused(ONE_MORE, "aaaz")
        self.refused(ONE_MORE, "aaazaaa")
        self.writes(THOUSAND, "aaaz", [])

    def test_pairs_beyond_a_letter_that_is_not_a_sign_do_not_count(self):
        self.writes(ONE_MORE, "aaz", [])
        self.writes(ONE_MORE, "aazaaaaaa", [])
        self.writes(ONE_MORE, "z" + "a" * 59, [])

    def test_texts_of_sixty_signs(self):
        word = "ab" * 100
        steps = [(0, "a", word, 0), (0, "b", word, 1), (1, "b", "", 0), (0, "b", "", 2)]
        scribe = ("ab", 3, [(0, "")], steps, [(0, ""), (1, "c")])
        self.writes(scribe, "a" * 60, [word * 60])
        self.writes(scribe, "a" * 59 + "b", [word * 60 + "c"])
        self.writes(scribe, "ab" * 30, [])

    def test_the_list_told_is_the_asker_s_own(self):
        scribe = ("a", 1, [(0, "x"), (0, "y")], [], [(0, "")])
        told = all_written(scribe, "")
        told.clear()
        self.writes(scribe, "", ["x", "y"])
        none = all_written(NO_ROOMS, "")
        none.append("x")
        self.writes(NO_ROOMS, "", [])
        self.assertFalse(any(all_written(NO_ROOMS, "") is part for part in NO_ROOMS))

    def test_what_is_done_to_a_scribe_later_changes_no_answer_told(self):
        scribe = ("a", 1, [(0, "x")], [(0, "a", "z", 0)], [(0, "")])
        told = all_written(scribe, "a")
        scribe[2].append((0, "y"))
        self.assertEqual(told, ["xz"])
        self.writes(scribe, "a", ["xz", "yz"])

    def test_it_is_what_the_ways_write(self):
        for scribe in some_scribes(400, 5):
            told = {text: set() for text in TEXTS}
            for count in range(4):
                for way in all_ways(scribe, count):
                    text, word = walked_by(scribe, way)
                    told[text].add(word)
            for text in TEXTS:
                self.assertEqual(all_written(scribe, text), sorted(told[text]), (scribe, text))

    def test_a_plain_scribe_s_words(self):
        for scribe in some_scribes(400, 7):
            if is_plain(scribe):
                for text in TEXTS:
                    word = written_for(scribe, text)
                    self.assertEqual(all_written(scribe, text), [] if word is None else [word])


if __name__ == "__main__":
    unittest.main()
