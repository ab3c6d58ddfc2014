"""Points 2 and 8: what words have in common, and what is left of them."""

import itertools
import os.path
import unittest

from earlyscribe.words import common_of, gap_of

SMALL = ["".join(letters) for count in range(4) for letters in itertools.product("ab", repeat=count)]


class CommonOf(unittest.TestCase):

    def test_a_list_of_one_word(self):
        for word in ("", "a", "abcz", "z" * 2000):
            self.assertEqual(common_of([word]), word)

    def test_an_empty_word_among_them(self):
        self.assertEqual(common_of(["", "abc", "abd"]), "")
        self.assertEqual(common_of(["abc", "", "abd"]), "")
        self.assertEqual(common_of(["abc", "abd", ""]), "")
        self.assertEqual(common_of(["", ""]), "")

    def test_words_that_are_alike(self):
        self.assertEqual(common_of(["abc", "abc"]), "abc")
        self.assertEqual(common_of(["abc"] * 400), "abc")

    def test_a_word_that_begins_all_the_others(self):
        for words in itertools.permutations(["ab", "abc", "abde", "abdf"]):
            self.assertEqual(common_of(list(words)), "ab")

    def test_nothing_in_common(self):
        self.assertEqual(common_of(["abc", "bbc"]), "")
        self.assertEqual(common_of(["ab", "ab", "b"]), "")
        self.assertEqual(common_of(["xab", "yab", "zab"]), "")

    def test_something_in_common(self):
        self.assertEqual(common_of(["abcd", "abxd", "abyd"]), "ab")
        self.assertEqual(common_of(["abcx", "abcy", "abz", "abcx"]), "ab")

    def test_the_shortest_word_needn_t_begin_the_others(self):
        self.assertEqual(common_of(["abx", "abcdef", "abcdeg"]), "ab")

    def test_long_words(self):
        begin = "ab" * 50000
        self.assertEqual(common_of([begin + "x", begin + "y", begin]), begin)
        self.assertEqual(common_of(["x" + begin, "y" + begin]), "")

    def test_every_small_list(self):
        for count in (1, 2, 3):
            for words in itertools.product(SMALL, repeat=count):
                self.assertEqual(common_of(list(words)), os.path.commonprefix(words), words)

    def test_the_list_handed_in_stays_as_it_was(self):
        words = ["b", "abc", "abd", ""]
        common_of(words)
        self.assertEqual(words, ["b", "abc", "abd", ""])


class GapOf(unittest.TestCase):

    def test_alike_words(self):
        for word in ("", "a", "abc", "ab" * 1000):
            self.assertEqual(gap_of(word, word), ("", ""))

    def test_a_word_and_one_that_it_begins(self):
        self.assertEqual(gap_of("ab", "abcd"), ("", "cd"))
        self.assertEqual(gap_of("abcd", "ab"), ("cd", ""))
        self.assertEqual(gap_of("", "ab"), ("", "ab"))
        self.assertEqual(gap_of("ab", ""), ("ab", ""))

    def test_words_that_part(self):
        self.assertEqual(gap_of("abcd", "abxyz"), ("cd", "xyz"))
        self.assertEqual(gap_of("ab", "ba"), ("ab", "ba"))

    def test_letters_alike_behind_the_parting_stay(self):
        self.assertEqual(gap_of("axbb", "aybb"), ("xbb", "ybb"))

    def test_it_is_a_tuple(self):
        self.assertIs(type(gap_of("a", "b")), tuple)

    def test_every_small_pair(self):
        for one, other in itertools.product(SMALL, repeat=2):
            shared = len(os.path.commonprefix([one, other]))
            self.assertEqual(gap_of(one, other), (one[shared:], other[shared:]))


if __name__ == "__main__":
    unittest.main()
