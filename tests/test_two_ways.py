"""Points 21 and 22: two ways that read the same text and write unlike words."""

import itertools
import random
import unittest

from samples import (ECHO, MIXED, NO_ROOMS, NOTHING_WRITTEN, all_ways, left_as_it_was, row_scribe, side_by_side,
                     some_plain_scribes, some_scribes, texts_up_to, told_as_own, two_rounds, with_other_numbers,
                     with_rooms_of_no_use, with_words_shifted)

from earlyscribe.choices import two_ways
from earlyscribe.errors import TooMany
from earlyscribe.scribes import all_written, is_plain, walked_by, written_for
from earlyscribe.trims import trimmed_of

MOST_STEPS = 200


def texts_with_two_words(scribe, most):
    """The texts of at most so many signs for which a scribe writes unlike words, found by trying every way."""
    found = set()
    for count in range(most + 1):
        words = {}
        for way in all_ways(scribe, count):
            text, word = walked_by(scribe, way)
            if words.setdefault(text, word) != word:
                found.add(text)
    return found


class TwoWays(unittest.TestCase):

    def two(self, scribe):
        """See that two ways with unlike words are told, and tell the text that they read."""
        told = left_as_it_was(self, two_ways, scribe)
        self.assertIs(type(told), tuple, scribe)
        self.assertEqual(len(told), 2)
        for way in told:
            self.assertIs(type(way), tuple)
            self.assertEqual(len(way), 3)
            self.assertEqual([type(part) for part in way], [int, list, int])
            self.assertLessEqual(len(way[1]), MOST_STEPS)
        text, word = walked_by(scribe, told[0])
        other_text, other_word = walked_by(scribe, told[1])
        self.assertEqual(text, other_text)
        self.assertNotEqual(word, other_word)
        self.assertEqual(two_ways(scribe), told)
        return text

    def none(self, scribe):
        self.assertIsNone(left_as_it_was(self, two_ways, scribe), scribe)

    def refused(self, scribe):
        with self.assertRaises(TooMany) as caught:
            left_as_it_was(self, two_ways, scribe)
        self.assertIs(type(caught.exception), TooMany)

    def test_too_many_rooms(self):
        for rooms in (9, 10, 64, 199, 200):
            with self.subTest(rooms=rooms):
                self.refused(("a", rooms, [], [], []))
                self.refused(row_scribe(rooms, "x"))
                # Few rooms are of use.
                self.refused(("a", rooms, [(0, "")], [], [(0, "")]))
                self.refused(("a", rooms, [(0, ""), (0, "x")], [], [(0, "")]))
                self.refused(("a", rooms, [(8, ""), (8, "x")], [(8, "a", "", 8)], [(8, "")]))

    def test_as_many_rooms_as_are_taken(self):
        for rooms in range(1, 9):
            self.none(("a", rooms, [], [], []))
            self.none(row_scribe(rooms, "x"))
            self.two(("a", rooms, [(rooms - 1, ""), (rooms - 1, "x")], [], [(rooms - 1, "")]))

    def test_plain_scribes(self):
        for scribe in (ECHO, NO_ROOMS) + NOTHING_WRITTEN:
            self.none(scribe)
        for scribe in some_plain_scribes(200, 91, most=8):
            self.none(scribe)

    def test_no_begins_no_steps_no_ends(self):
        steps = [(0, "a", "x", 0), (0, "a", "y", 0), (0, "a", "", 1), (1, "a", "xx", 0)]
        marks = [(0, "x"), (0, "y"), (1, "")]
        self.none(("a", 2, [], steps, marks))
        self.none(("a", 2, marks, steps, []))
        self.none(("a", 2, [], [], []))
        self.none(("a", 2, [(0, "x")], [], [(0, "y"), (1, ""), (1, "y")]))
        self.two(("a", 2, marks, [], marks))

    def test_two_begins(self):
        self.assertEqual(self.two(("a", 1, [(0, "x"), (0, "y")], [], [(0, "")])), "")
        self.assertEqual(self.two(("a", 1, [(0, ""), (0, "y")], [], [(0, "")])), "")
        self.assertEqual(self.two(("a", 2, [(0, "x"), (1, "y")], [(1, "a", "", 1)], [(0, ""), (1, "")])), "")
        self.assertEqual(self.two(("a", 2, [(0, "x"), (1, "x")], [], [(0, ""), (1, "y")])), "")
        # The text that both can read is one sign long, or there is none.
        self.assertEqual(self.two(("a", 2, [(0, "x"), (1, "y")], [(0, "a", "", 1), (1, "a", "", 1)], [(1, "")])), "a")
        self.none(("a", 2, [(0, "x"), (1, "y")], [(0, "a", "", 1)], [(1, "")]))

    def test_two_begins_that_write_the_same(self):
        self.none(("a", 2, [(0, "x"), (1, "x")], [], [(0, ""), (1, "")]))
        self.none(("a", 2, [(0, "x"), (1, "")], [], [(0, ""), (1, "x")]))
        self.none(("a", 2, [(0, "xy"), (1, "x")], [], [(0, "z"), (1, "yz")]))

    def test_two_steps(self):
        self.assertEqual(self.two(("ab", 1, [(0, "")], [(0, "b", "x", 0), (0, "b", "y", 0)], [(0, "")])), "b")
        self.two(("ab", 1, [(0, "")], [(0, "b", "x", 0), (0, "b", "", 0)], [(0, "")]))
        self.two(("ab", 2, [(0, "")], [(0, "b", "x", 0), (0, "b", "y", 1)], [(0, ""), (1, "")]))
        self.two(("ab", 2, [(0, "")], [(0, "b", "x", 0), (0, "b", "x", 1)], [(0, ""), (1, "y")]))
        # Signs are unlike, or the rooms come to have no text in common.
        self.none(("ab", 1, [(0, "")], [(0, "a", "x", 0), (0, "b", "y", 0)], [(0, "")]))
        self.none(("ab", 3, [(0, "")], [(0, "b", "x", 1), (0, "b", "y", 2), (1, "a", "", 2)], [(2, "")]))
        self.none(("ab", 4, [(0, "")],
                   [(0, "b", "x", 1), (0, "b", "y", 2), (1, "a", "", 3), (2, "b", "", 3)], [(3, "")]))

    def test_two_steps_that_write_the_same(self):
        self.none(("ab", 2, [(0, "")], [(0, "b", "x", 0), (0, "b", "x", 1)], [(0, ""), (1, "")]))
        self.none(("ab", 2, [(0, "")], [(0, "b", "xy", 1), (0, "b", "x", 0)], [(0, "y"), (1, "")]))
        self.none(("ab", 4, [(0, "")],
                   [(0, "b", "xy", 1), (0, "b", "", 2), (1, "a", "", 3), (2, "a", "xy", 3)], [(3, "")]))

    def test_two_ends(self):
        self.assertEqual(self.two(("a", 1, [(0, "")], [], [(0, "x"), (0, "y")])), "")
        self.assertEqual(self.two(("a", 1, [(0, "")], [], [(0, "x"), (0, "xx")])), "")
        self.assertEqual(self.two(("ab", 2, [(0, "")], [(0, "b", "", 1)], [(0, "x"), (1, "y"), (1, "")])), "b")
        self.none(("ab", 3, [(0, "")], [(0, "b", "", 1)], [(0, "x"), (1, "y"), (2, ""), (2, "x")]))

    def test_each_end_of_a_room_is_tried(self):
        for count in range(2, 6):
            ends = [(0, "x" * place) for place in range(count)]
            for last in itertools.permutations(ends, 2):
                self.two(("a", 1, [(0, "")], [], list(last)))
                self.two(("a", 2, [(1, "")], [(1, "a", "", 0)], list(last)))

    def test_words_unlike_in_length_alone(self):
        self.two(("a", 1, [(0, "x"), (0, "xx")], [], [(0, "")]))
        self.two(("a", 1, [(0, "")], [(0, "a", "x", 0), (0, "a", "xx", 0)], [(0, "")]))
        self.two(("a", 1, [(0, "")], [], [(0, "x"), (0, "xxx")]))
        self.two(("a", 2, [(0, ""), (1, "x")], [(0, "a", "x", 0), (1, "a", "x", 1)], [(0, ""), (1, "")]))
        self.none(("a", 2, [(0, ""), (1, "x")], [(0, "a", "x", 0), (1, "a", "x", 1)], [(0, "x"), (1, "")]))

    def test_words_that_part_only_behind_a_round(self):
        # Some are alike for one number of rounds, but then one word is longer for another number.
        self.two(two_rounds(["a"], ["aa"], {0: ""}, {0: ""}))
        self.two(two_rounds(["a"], ["aa"], {0: "a"}, {0: ""}))
        self.two(two_rounds(["a"], ["aa"], {0: ""}, {0: "a"}, ("a", "")))
        self.two(two_rounds(["a"], ["aa"], {0: "aaaaaaaaaa"}, {0: ""}))
        self.two(two_rounds(["a"], ["a"], {0: "b"}, {0: "b"}, ("b", "ba")))

    def test_rounds_with_the_same_letters_begun_elsewhere(self):
        self.none(two_rounds(["ba"], ["ab"], {0: ""}, {0: "a"}, ("a", "")))
        self.none(two_rounds(["ab"], ["ba"], {0: "ab"}, {0: "b"}, ("", "a")))
        self.none(two_rounds(["baa"], ["aba"], {0: "x"}, {0: "ax"}, ("a", "")))
        self.two(two_rounds(["ab"], ["ba"], {0: ""}, {0: ""}))
        self.two(two_rounds(["ba"], ["ab"], {0: ""}, {0: ""}, ("a", "a")))
        self.two(two_rounds(["ba"], ["ba"], {0: ""}, {0: "a"}, ("a", "")))
        self.two(two_rounds(["ba"], ["ab"], {0: ""}, {0: "b"}, ("a", "")))

    def test_rounds_of_several_steps(self):
        # Texts of 2, 5, 8 .. signs end one round, those of 4, 9, 14 .. the other one: 14, 29 .. end both.
        ones = ["aaa", "", ""]
        others = ["", "", "", "", "aaaaa"]
        self.none(two_rounds(ones, others, {2: ""}, {4: "aaaaa"}))
        self.none(two_rounds(ones, others, {2: "b"}, {4: "aaaaab"}))
        for scribe in (two_rounds(ones, others, {2: ""}, {4: "aaaa"}),
                       two_rounds(ones, others, {2: ""}, {4: "aaaab"}),
                       two_rounds(ones, others, {2: ""}, {4: "aaaaa"}, ("", "a")),
                       two_rounds(ones, others, {2: ""}, {4: "aaaaa"}, ("b", ""))):
            self.assertEqual(len(self.two(scribe)) % 15, 14)

    def test_rounds_that_grow_apart(self):
        # The first text that ends both rounds, of 14 signs, is written alike, the next one isn't.
        self.none(two_rounds(["a"] * 3, ["a"] * 5, {2: ""}, {4: ""}))
        self.assertGreaterEqual(len(self.two(two_rounds(["a"] * 3, ["aa"] + ["a"] * 4, {2: "aaa"}, {4: ""}))), 29)
        self.assertGreaterEqual(len(self.two(two_rounds(["b", "a", "a"], ["b", "a", "a", "b", "a"], {2: ""}, {4: ""}))),
                                14)

    def test_rounds_of_all_lengths(self):
        for one in range(1, 8):
            for other in range(1, 9 - one):
                scribe = two_rounds(["x"] * one, ["x"] * other, {one - 1: ""}, {other - 1: ""})
                self.none(scribe)
                self.two(scribe[:4] + ([(one - 1, "x"), (one + other - 1, "")],))
                self.two(scribe[:4] + ([(one - 1, "x"), (one + other - 1, "y")],))
                self.none(scribe[:4] + ([(one - 1, "xy"), (one + other - 1, "xy")],))
                steps = scribe[3][:-1] + [scribe[3][-1][:2] + ("xy",) + scribe[3][-1][3:]]
                self.two(scribe[:3] + (steps, scribe[4]))

    def test_one_round_of_eight_rooms_with_two_begins(self):
        # The two are never in one room, but each pair of rooms is come to.
        for gap in range(1, 8):
            steps = [(room, "a", "xyxyxyxy"[room], (room + 1) % 8) for room in range(8)]
            ends = [(room, "") for room in range(8)]
            scribe = ("a", 8, [(0, ""), (gap, "")], steps, ends)
            if gap % 2 == 0:
                self.none(scribe)
            else:
                self.two(scribe)

    def test_choices_that_settle_late(self):
        # A row of steps with a and a choice at its first one; the last sign tells which one it was.
        steps = [(0, "a", "x", 1), (0, "a", "y", 2), (1, "a", "", 1), (2, "a", "", 2), (1, "b", "", 3), (2, "c", "", 3)]
        self.none(("abc", 4, [(0, "")], steps, [(3, "")]))
        self.two(("abc", 4, [(0, "")], steps + [(2, "b", "", 3)], [(3, "")]))
        self.two(("abc", 4, [(0, "")], steps, [(1, ""), (2, ""), (3, "")]))

    def test_rooms_of_no_use_with_unlike_words(self):
        steps = [(0, "a", "x", 0), (0, "a", "y", 1), (1, "a", "z", 1), (1, "a", "w", 1), (2, "a", "u", 0),
                 (2, "a", "v", 0), (0, "a", "", 1)]
        self.none(("a", 3, [(0, ""), (1, "y"), (1, "x")], steps, [(0, ""), (2, "x"), (2, "y")]))
        self.none(MIXED[:1] + (8,) + MIXED[2:3] + ([step for step in MIXED[3] if step[0] != 8],) + MIXED[4:])
        self.two(("a", 3, [(0, ""), (2, "y")], steps, [(0, ""), (2, "x"), (2, "y")]))

    def test_words_written_early_on_one_way_and_late_on_the_other(self):
        source = random.Random(93)
        shifted = 0
        for scribe in some_plain_scribes(300, 95, most=4):
            other = with_other_numbers(with_words_shifted(scribe, source), source)
            self.none(side_by_side(scribe, other))
            shifted += sorted(other[4]) != sorted(scribe[4])
        self.assertGreater(shifted, 100)

    def test_rooms_of_no_use_beside(self):
        source = random.Random(97)
        for scribe in some_plain_scribes(100, 99):
            self.none(side_by_side(scribe, with_rooms_of_no_use(scribe, source)))

    def test_two_plain_scribes_side_by_side(self):
        source = random.Random(101)
        scribes = list(some_plain_scribes(300, 103, ("", "a", "aa"), most=4))
        count = 0
        for one in scribes:
            other = source.choice(scribes)
            texts = [text for text in texts_up_to("ab", 6) if written_for(one, text) is not None
                     and written_for(other, text) not in (None, written_for(one, text))]
            scribe = side_by_side(one, other)
            if texts:
                self.two(scribe)
                count += 1
            elif two_ways(scribe) is not None:
                self.assertGreater(len(self.two(scribe)), 6)
        self.assertGreater(count, 50)

    def test_small_scribes(self):
        alike = 0
        apart = 0
        for scribe in list(some_scribes(700, 105)) + list(some_scribes(1500, 107, ("", "", "a"))):
            if texts_with_two_words(trimmed_of(scribe), 3):
                self.two(scribe)
            elif two_ways(scribe) is not None:
                self.assertGreater(len(self.two(scribe)), 3)
            else:
                for text in texts_up_to("ab", 6):
                    self.assertLessEqual(len(all_written(trimmed_of(scribe), text)), 1, (scribe, text))
            if not is_plain(trimmed_of(scribe)):
                alike += two_ways(scribe) is None
                apart += two_ways(scribe) is not None
        self.assertGreater(alike, 50)
        self.assertGreater(apart, 200)

    def test_many_begins_steps_and_ends(self):
        source = random.Random(107)
        words = ["".join(source.choice("ab") for letter in range(200)) for turn in range(400)]
        begins = [(turn % 8, words[turn]) for turn in range(400)]
        steps = [(turn % 8, "a", words[turn], turn // 8 % 8) for turn in range(400)]
        self.two(("a", 8, begins, steps, begins))
        self.none(("a", 8, begins, steps, []))
        # The begin's room is none of those with choices.
        steps = [(1 + turn % 7, "a", words[turn], 1 + turn // 8 % 7) for turn in range(400)]
        self.none(("a", 8, [(0, "")], steps, [(0, "")]))

    def test_all_steps_there_can_be(self):
        marks = [(room, "x") for room in range(8)]
        steps = [(start, sign, sign * 200, goal) for start in range(8) for goal in range(8) for sign in "abcdef"]
        self.none(("abcdef", 8, marks, steps, marks))
        for place in (0, 100, 383):
            start, sign, word, goal = steps[place]
            for other in ((start, sign, word[1:], goal), (start, sign, word[1:] + "x", goal)):
                self.two(("abcdef", 8, marks, steps[:place] + [other] + steps[place + 1:], marks))
                self.two(("abcdef", 8, marks, steps + [other], marks))

    def test_more_steps_than_are_handed_in_at_first(self):
        # A scribe that was told may have thousands of steps: here each two rooms have a hundred for each sign.
        words = ["x" * count for count in range(100)]
        marks = [(room, word) for room in range(8) for word in words]
        steps = [(start, sign, word, goal)
                 for start in range(8) for goal in range(8) for sign in "ab" for word in words]
        self.two(("ab", 8, marks, steps, marks))
        self.two(("ab", 8, marks[:1], steps, marks[-1:]))
        self.none(("ab", 8, [], steps, marks))
        # Those rooms that have so many are of no use, for nothing leads from there to the room of the end.
        steps = [step for step in steps if step[0] > 0 and step[3] > 0] + [(0, "a", "y", 0), (0, "a", "", 5)]
        self.none(("ab", 8, [(0, "x")] + [mark for mark in marks if mark[0] > 0], steps, [(0, "")]))
        self.two(("ab", 8, [(0, "x")], steps + [(7, "b", "", 0)], [(0, "")]))

    def test_longer_words_that_were_told(self):
        word = "ab" * 20000
        self.none(two_rounds([word], ["ba" * 20000], {0: "a"}, {0: ""}, ("", "a")))
        self.two(two_rounds([word], ["ba" * 20000], {0: "b"}, {0: ""}, ("", "a")))

    def test_the_rows_told_are_the_asker_s_own(self):
        for scribe in (("a", 1, [(0, ""), (0, "x")], [], [(0, "")]),
                       ("ab", 1, [(0, "")], [(0, "b", "x", 0), (0, "b", "y", 0)], [(0, "")]),
                       two_rounds(["a"] * 3, ["aa"] + ["a"] * 4, {2: "aaa"}, {4: ""}),
                       ECHO):
            told_as_own(self, two_ways, scribe)

    def test_a_scribe_changed_later_is_asked_anew(self):
        scribe = ("a", 1, [(0, "")], [(0, "a", "x", 0)], [(0, "")])
        self.none(scribe)
        scribe[4].append((0, "y"))
        self.two(scribe)
        scribe[4].clear()
        self.none(scribe)


if __name__ == "__main__":
    unittest.main()
