"""Point 15: what is sure to be written from a room on."""

import os.path
import unittest

from samples import ECHO, NO_ROOMS, PLAIN_MIXED, left_as_it_was, row_scribe, some_plain_scribes, told_as_own

from earlyscribe.early import heads_of


def words_from(scribe, room, most):
    """All that can be written from a room on with at most so many steps."""
    signs, rooms, begins, steps, ends = scribe
    words = set()
    front = {(room, "")}
    for count in range(most + 1):
        words |= {word + last for at, word in front for other, last in ends if other == at}
        front = {(step[3], word + step[2]) for at, word in front for step in steps if step[0] == at}
    return words


class HeadsOf(unittest.TestCase):

    def told(self, scribe, heads):
        told = left_as_it_was(self, heads_of, scribe)
        self.assertIs(type(told), list)
        self.assertEqual(told, heads)

    def test_a_room_with_an_end_alone(self):
        self.told(("a", 1, [(0, "pq")], [], [(0, "xyz")]), ["xyz"])
        self.told(("a", 1, [(0, "pq")], [], [(0, "")]), [""])

    def test_the_begin_s_word_is_no_part_of_a_head(self):
        self.told(("a", 2, [(0, "x")], [(0, "a", "y", 1)], [(1, "z")]), ["yz", "z"])

    def test_no_rooms(self):
        self.told(NO_ROOMS, [])

    def test_words_with_nothing_in_common(self):
        self.told(ECHO, ["", ""])

    def test_an_end_s_word_that_begins_all_others(self):
        self.told(("ab", 2, [(0, "")], [(0, "a", "xyz", 1), (0, "b", "xyw", 1)], [(0, "xy"), (1, "")]), ["xy", ""])
        self.told(("ab", 2, [(0, "")], [(0, "a", "x", 1)], [(0, "xy"), (1, "yz")]), ["xy", "yz"])

    def test_an_end_s_word_that_begins_some(self):
        self.told(("ab", 2, [(0, "")], [(0, "a", "xyz", 1), (0, "b", "xw", 1)], [(0, "xy"), (1, "")]), ["x", ""])
        self.told(("ab", 2, [(0, "")], [(0, "a", "xyz", 1)], [(0, ""), (1, "w")]), ["", "w"])

    def test_words_that_part_within_a_step_s_word(self):
        self.told(("ab", 2, [(0, "")], [(0, "a", "xyz", 1), (0, "b", "xyw", 1)], [(1, "v")]), ["xy", "v"])

    def test_words_that_part_behind_some_steps(self):
        # The words are xyzz and xyzw, cut otherwise into steps.
        steps = [(0, "a", "", 1), (0, "b", "xyz", 2), (1, "a", "xy", 3), (2, "a", "w", 4), (3, "a", "z", 4)]
        self.told(("ab", 5, [(0, "")], steps, [(4, ""), (3, "zz")]), ["xyz", "xyz", "w", "z", ""])

    def test_rounds_that_write(self):
        self.told(("a", 1, [(0, "")], [(0, "a", "x", 0)], [(0, "xxxxx")]), ["xxxxx"])
        self.told(("a", 1, [(0, "")], [(0, "a", "ab", 0)], [(0, "ababa")]), ["ababa"])
        self.told(("a", 1, [(0, "")], [(0, "a", "ab", 0)], [(0, "ababc")]), ["abab"])
        self.told(("a", 1, [(0, "")], [(0, "a", "abc", 0)], [(0, "ab")]), ["ab"])
        self.told(("a", 1, [(0, "")], [(0, "a", "x", 0)], [(0, "y")]), [""])
        self.told(("a", 1, [(0, "")], [(0, "a", "x", 0)], [(0, "")]), [""])

    def test_rounds_of_several_rooms(self):
        steps = [(0, "a", "ab", 1), (1, "a", "a", 0)]
        self.told(("a", 2, [(0, "")], steps, [(0, "abaabaab")]), ["abaabaab", "aabaabaab"])
        self.told(("a", 2, [(0, "")], steps, [(0, "abaabb")]), ["abaab", "aabaab"])
        self.told(("a", 2, [(0, "")], steps, [(0, "abaabb"), (1, "aabb")]), ["abaab", "aab"])

    def test_a_head_as_long_as_several_turns_and_the_end_s_word(self):
        # Left behind any number of turns, and then three turns' letters more and an end's word that goes on like them.
        steps = [(0, "a", "ab", 0), (0, "b", "ab", 1), (1, "b", "ab", 2), (2, "b", "ab", 3)]
        self.told(("ab", 4, [(0, "")], steps, [(3, "aba")]), ["ab" * 4 + "a", "ab" * 3 + "a", "ababa", "aba"])
        self.told(("ab", 4, [(0, "")], steps, [(3, "ac")]), ["ab" * 3 + "a", "ababac", "abac", "ac"])

    def test_rounds_that_write_nothing(self):
        self.told(("a", 1, [(0, "")], [(0, "a", "", 0)], [(0, "xy")]), ["xy"])
        steps = [(0, "a", "", 1), (1, "a", "", 2), (2, "a", "", 0)]
        self.told(("ab", 3, [(0, "")], steps, [(1, "xyz")]), ["xyz"] * 3)
        self.told(("ab", 3, [(0, "")], steps, [(1, "xyz"), (2, "xyw")]), ["xy"] * 3)
        self.told(("ab", 4, [(0, "")], steps + [(0, "b", "x", 3)], [(3, "y"), (1, "xyz"), (2, "xyw")]),
                  ["xy", "xy", "xy", "y"])

    def test_two_rounds_at_a_room(self):
        self.told(("ab", 1, [(0, "")], [(0, "a", "ab", 0), (0, "b", "abab", 0)], [(0, "ababab")]), ["ababab"])
        self.told(("ab", 1, [(0, "")], [(0, "a", "ab", 0), (0, "b", "aba", 0)], [(0, "ababab")]), ["aba"])

    def test_rooms_from_which_no_end_can_be_come_to(self):
        steps = [(0, "a", "x", 1), (0, "b", "y", 2), (1, "a", "", 1), (2, "a", "z", 3)]
        self.told(("ab", 4, [(0, "")], steps, [(3, "w")]), ["yzw", None, "zw", "w"])
        self.told(("ab", 4, [(0, "")], steps, []), [None] * 4)
        self.told(("ab", 2, [], [], []), [None] * 2)

    def test_rooms_to_which_no_begin_leads(self):
        self.told(PLAIN_MIXED, [None, "", "", None, "", "xy", "w", None, None])
        steps = [(0, "a", "x", 1), (2, "b", "y", 1), (2, "a", "yx", 2)]
        self.told(("ab", 3, [(1, "")], steps, [(1, "z")]), ["xz", "z", "y"])
        self.told(("ab", 3, [], steps, [(1, "z")]), ["xz", "z", "y"])

    def test_words_of_two_hundred_letters(self):
        word = "ab" * 100
        self.told(("ab", 2, [(0, "")], [(0, "a", word, 1), (0, "b", word[:-1] + "c", 1)], [(1, "")]), [word[:-1], ""])
        self.told(("ab", 1, [(0, "")], [(0, "a", word, 0)], [(0, word)]), [word])
        self.told(("ab", 1, [(0, "")], [(0, "a", word[1:], 0)], [(0, word)]), [""])

    def test_two_hundred_rooms(self):
        word = "ab" * 100
        signs, rooms, begins, steps, ends = row_scribe(200, word)
        heads = [word * (199 - room) for room in range(200)]
        self.told((signs, rooms, begins, steps, ends), heads)
        self.told((signs, rooms, begins, steps[::-1], [(199, "c")]), [head + "c" for head in heads])
        self.told((signs, rooms, begins, steps + [(199, "a", word, 0)], [(199, word)]), [head + word for head in heads])
        self.told((signs, rooms, begins, steps + [(199, "a", "c", 0)], [(199, "")]), heads)

    def test_what_is_sure_comes_round_by_two_hundred_rooms(self):
        # The words part at the last room alone, and each other room learns it from the one behind it.
        signs, rooms, begins, steps, ends = row_scribe(200, "")
        self.told((signs, rooms, begins, steps + [(199, "a", "xyz", 0)], [(199, "xyw"), (0, "xyv")]), ["xy"] * 200)

    def test_the_shortest_word_may_have_the_most_steps(self):
        steps = [(room, "a", "x", room + 1) for room in range(199)]
        steps += [(room, "b", "x" * 200, 199) for room in range(199)]
        self.told(("ab", 200, [(0, "")], steps, [(199, "")]), ["x" * (199 - room) for room in range(200)])

    def test_longer_words_that_were_told(self):
        word = "ab" * 20000
        self.told(("ab", 2, [(0, "")], [(0, "a", word, 1), (0, "b", word + "a", 1)], [(1, "b")]), [word, "b"])

    def test_small_scribes(self):
        for words in (("", "a", "b", "ab", "aa", "aba"), ("", "a", "aa", "aaa"), ("ab", "a", "ba", "aba", "abaab")):
            for scribe in some_plain_scribes(250, 29, words):
                # Words that part do so within twice as many steps as there are rooms.
                written = [words_from(scribe, room, 2 * scribe[1] + 1) for room in range(scribe[1])]
                self.told(scribe, [os.path.commonprefix(list(words)) if words else None for words in written])

    def test_the_list_told_is_the_asker_s_own(self):
        for scribe in (ECHO, NO_ROOMS, row_scribe(4, "x")):
            told_as_own(self, heads_of, scribe)


if __name__ == "__main__":
    unittest.main()
