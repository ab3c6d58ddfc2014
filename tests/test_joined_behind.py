"""Point 20: one scribe behind the other."""

import itertools
import random
import unittest

from samples import (ECHO, NO_ROOMS, NOTHING_WRITTEN, PLAIN_MIXED, left_as_it_was, row_scribe, some_plain_scribes,
                     texts_up_to, told_as_own)

from earlyscribe.aparts import apart_text
from earlyscribe.early import earliest_of
from earlyscribe.errors import TooMany
from earlyscribe.forms import plainest_of
from earlyscribe.joins import joined_behind
from earlyscribe.scribes import is_plain, is_scribe, written_for


def written_by_both(one, other, text):
    """What the second scribe writes for what the first one writes for a text, or None."""
    word = written_for(one, text)
    return None if word is None else written_for(other, word)


def copier(signs):
    """A plain scribe that writes just what it reads."""
    return (signs, 1, [(0, "")], [(0, sign, sign, 0) for sign in signs], [(0, "")])


def round_scribe(rooms, signs, words):
    """A plain scribe of one round in which each sign leads on by one room and writes the next one of some words."""
    turns = itertools.cycle(words)
    steps = [(room, sign, next(turns), (room + 1) % rooms) for room in range(rooms) for sign in signs]
    return (signs, rooms, [(0, "")], steps, [(room, "") for room in range(rooms)])


def with_most_steps(scribe, source):
    """A plain scribe with steps and ends put in where it has none, but for a few."""
    signs, rooms, begins, steps, ends = scribe
    places = {step[:2] for step in steps}
    last = {room for room, word in ends}
    more = [(room, sign, source.choice(["", "a", "b", "ba"]), source.randrange(rooms))
            for room in range(rooms) for sign in signs if (room, sign) not in places and source.random() < 0.9]
    return (signs, rooms, begins or [(0, "b")], steps + more,
            ends + [(room, "a") for room in range(rooms) if room not in last and source.random() < 0.9])


# Reads x and y by turns, and writes how it finds them.
BY_TURNS = ("xy", 2, [(0, "b")], [(0, "x", "cc", 1), (1, "y", "", 0)], [(0, "d"), (1, "")])


class JoinedBehind(unittest.TestCase):

    def joined(self, one, other, texts):
        """See that the joined scribe writes what it should for some texts, and tell it."""
        told = left_as_it_was(self, joined_behind, one, other)
        self.assertTrue(is_scribe(told))
        self.assertTrue(is_plain(told))
        self.assertEqual(told[0], one[0])
        self.assertLessEqual(told[1], one[1] * other[1])
        for text in texts:
            self.assertEqual(written_for(told, text), written_by_both(one, other, text), text)
        self.assertEqual(joined_behind(one, other), told)
        return told

    def refused(self, one, other):
        with self.assertRaises(TooMany) as caught:
            left_as_it_was(self, joined_behind, one, other)
        self.assertIs(type(caught.exception), TooMany)

    def nothing(self, one, other):
        """See that the joined scribe writes nothing for any text."""
        told = self.joined(one, other, texts_up_to(one[0], 3))
        self.assertEqual(plainest_of(told), (one[0], 0, [], [], []))

    def test_too_many_pairs_of_rooms(self):
        for one, other in ((3, 67), (67, 3), (200, 200), (200, 2), (2, 200), (2, 101), (101, 2), (15, 14), (14, 15)):
            with self.subTest(one=one, other=other):
                self.refused(row_scribe(one, "a"), row_scribe(other, "a"))
                self.refused(row_scribe(one, ""), row_scribe(other, ""))
                self.refused(("a", one, [], [], []), ("b", other, [], [], []))
                self.refused(("ab", one, [(0, "x")], [], [(0, "")]), ("c", other, [(0, "")], [], []))

    def test_as_many_pairs_of_rooms_as_are_taken(self):
        for one, other in ((1, 200), (200, 1), (2, 100), (100, 2), (10, 20), (14, 14), (0, 200), (200, 0), (0, 0)):
            with self.subTest(one=one, other=other):
                self.joined(("a", one, [], [], []), ("b", other, [], [], []), ["", "a"])
        for one, other in ((1, 200), (2, 100), (10, 20), (100, 2), (200, 1)):
            texts = ["a" * count for count in range(0, 250, 7)]
            self.joined(round_scribe(one, "a", ["a", ""]), round_scribe(other, "a", ["x", "yz", ""]), texts)
            self.joined(row_scribe(one, "a"), row_scribe(other, "x"), ["a" * (one - 1), "a" * (other - 1), "a" * one])

    def test_as_many_rooms_as_there_are_pairs(self):
        told = self.joined(round_scribe(9, "ab", ["a", "aa", ""]), round_scribe(22, "a", "xyzw"), texts_up_to("ab", 5))
        self.assertLessEqual(told[1], 198)

    def test_one_behind_the_other(self):
        self.joined(ECHO, ("oxyz", 1, [(0, "p")],
                           [(0, "o", "", 0), (0, "x", "xx", 0), (0, "y", "", 0), (0, "z", "q", 0)],
                           [(0, "r")]), texts_up_to("ab", 6))
        told = joined_behind(ECHO, copier("oxyz"))
        self.assertEqual(plainest_of(told), plainest_of(ECHO))
        self.assertEqual(written_for(told, "aba"), "oxyxz")

    def test_a_copier_ahead(self):
        for scribe in (ECHO, PLAIN_MIXED, NO_ROOMS) + NOTHING_WRITTEN:
            told = self.joined(copier(scribe[0]), scribe, texts_up_to("ab", 5))
            self.assertEqual(plainest_of(told), plainest_of(scribe))

    def test_words_of_a_begin_of_a_step_and_of_an_end(self):
        words = ("", "x", "xy", "xyx", "y", "yx", "xx", "xyxyx")
        for begin, step, end in itertools.product(words, repeat=3):
            scribe = ("a", 1, [(0, begin)], [(0, "a", step, 0)], [(0, end)])
            self.joined(scribe, BY_TURNS, ["a" * count for count in range(6)])

    def test_one_word_and_what_is_made_of_it(self):
        one = ("a", 1, [(0, "xyx")], [], [(0, "yx")])
        self.assertEqual(written_for(joined_behind(one, BY_TURNS), ""), "bcccccc")
        one = ("a", 1, [(0, "xyx")], [], [(0, "y")])
        self.assertEqual(written_for(joined_behind(one, BY_TURNS), ""), "bccccd")

    def test_letters_that_are_no_signs_of_the_second(self):
        steps = [(0, "a", "x", 1), (1, "b", "y", 0), (1, "a", "", 1)]
        texts = texts_up_to("ab", 5)
        self.nothing(("ab", 2, [(0, "z")], steps, [(0, ""), (1, "")]), BY_TURNS)
        self.nothing(("ab", 2, [(0, "xyz")], steps, [(0, ""), (1, "")]), BY_TURNS)
        told = self.joined(("ab", 2, [(0, "")], steps, [(0, ""), (1, "z")]), BY_TURNS, texts)
        self.assertIsNone(written_for(told, "a"))
        self.assertEqual(written_for(told, "ab"), "bccd")
        told = self.joined(("ab", 2, [(0, "")], steps[:1] + [(1, "b", "yz", 0)], [(0, ""), (1, "")]), BY_TURNS, texts)
        self.assertEqual(written_for(told, "a"), "bcc")
        self.assertIsNone(written_for(told, "ab"))
        told = self.joined(("ab", 2, [(0, "")], [(0, "a", "zx", 1), (0, "b", "x", 1)], [(1, "")]), BY_TURNS, texts)
        self.assertIsNone(written_for(told, "a"))
        self.assertEqual(written_for(told, "b"), "bcc")

    def test_a_second_one_without_a_step_for_a_sign(self):
        one = ("ab", 1, [(0, "")], [(0, "a", "x", 0), (0, "b", "y", 0)], [(0, "")])
        told = self.joined(one, BY_TURNS, texts_up_to("ab", 6))
        self.assertIsNone(written_for(told, "aa"))
        self.assertIsNone(written_for(told, "b"))
        self.assertEqual(written_for(told, "aba"), "bcccc")

    def test_a_second_one_without_an_end_at_some_rooms(self):
        one = ("ab", 1, [(0, "")], [(0, "a", "x", 0), (0, "b", "y", 0)], [(0, "")])
        told = self.joined(one, BY_TURNS[:4] + ([(0, "d")],), texts_up_to("ab", 6))
        self.assertIsNone(written_for(told, "a"))
        self.assertEqual(written_for(told, "ab"), "bccd")
        # The end's word of the first leads from a room without an end to one with it.
        one = one[:4] + ([(0, "y")],)
        told = self.joined(one, BY_TURNS[:4] + ([(0, "d")],), texts_up_to("ab", 6))
        self.assertIsNone(written_for(told, "ab"))
        self.assertEqual(written_for(told, "a"), "bccd")

    def test_a_second_one_that_writes_nothing(self):
        for other in NOTHING_WRITTEN + (NO_ROOMS, ("ab", 0, [], [], [])):
            for one in (ECHO, copier("ab"), PLAIN_MIXED, NO_ROOMS):
                self.nothing(one, other)

    def test_a_second_one_without_a_begin_an_end_or_rooms(self):
        one = ("ab", 1, [(0, "")], [(0, "a", "x", 0)], [(0, "")])
        self.nothing(one, BY_TURNS[:2] + ([],) + BY_TURNS[3:])
        self.nothing(one, BY_TURNS[:4] + ([],))
        self.nothing(one, ("xy", 0, [], [], []))

    def test_a_first_one_that_writes_nothing(self):
        for one in NOTHING_WRITTEN + (NO_ROOMS, ("c", 0, [], [], [])):
            for other in (ECHO, BY_TURNS, NO_ROOMS):
                self.nothing(one, other)

    def test_empty_words_alone(self):
        one = ("ab", 1, [(0, "")], [(0, "a", "", 0), (0, "b", "", 0)], [(0, "")])
        told = self.joined(one, BY_TURNS, texts_up_to("ab", 4))
        self.assertEqual(plainest_of(told), plainest_of(("ab", 1, [(0, "bd")], [(0, "a", "", 0), (0, "b", "", 0)],
                                                         [(0, "")])))

    def test_long_words(self):
        word = "ab" * 100
        one = ("cd", 1, [(0, word)], [(0, "c", word, 0), (0, "d", word[1:] + "a", 0)], [(0, word)])
        other = ("ab", 1, [(0, word)], [(0, "a", word, 0), (0, "b", word[::-1], 0)], [(0, word)])
        told = self.joined(one, other, ["", "c", "d", "cd", "ccd"])
        self.assertEqual(len(written_for(told, "c")), 200 + 600 * 200 + 200)

    def test_long_words_and_many_rooms(self):
        word = "ab" * 100
        other = round_scribe(200, "ab", [word, word[::-1], word[1:]])
        told = self.joined(("cd", 1, [(0, "a")], [(0, "c", word[1:], 0), (0, "d", word, 0)], [(0, word)]), other,
                           ["", "c", "d", "cd", "ccd"])
        self.assertLessEqual(told[1], 200)
        self.joined(round_scribe(14, "ab", [word, word[1:]]), round_scribe(14, "ab", [word, word[1:]]),
                    texts_up_to("ab", 3))

    def test_what_was_told_is_handed_in_again(self):
        for word in ("ab" * 5, "ab" * 25):
            one = ("ab", 1, [(0, "a")], [(0, "a", word, 0), (0, "b", "b", 0)], [(0, word)])
            other = ("ab", 2, [(0, "")], [(0, "a", word, 1), (0, "b", "", 0), (1, "b", "a", 0), (1, "a", "b", 1)],
                     [(0, ""), (1, "b")])
            told = self.joined(one, other, texts_up_to("ab", 3))
            self.joined(told, other, texts_up_to("ab", 2))
            self.joined(one, told, texts_up_to("ab", 2))
            self.joined(plainest_of(told), earliest_of(told), ["", "a", "b", "ab"])

    def test_what_was_told_is_handed_in_again_with_many_rooms(self):
        # Few of the second one's rooms are come to, and a step there writes some millions of letters.
        word = "ab" * 100
        one = joined_behind(("a", 1, [(0, "")], [(0, "a", word, 0)], [(0, "")]),
                            ("ab", 1, [(0, "")], [(0, "a", word, 0), (0, "b", word, 0)], [(0, "")]))
        other = round_scribe(200, "ab", [word])
        told = joined_behind(one, other)
        self.assertLessEqual(told[1], 200)
        self.assertEqual(len(written_for(told, "aa")), 2 * 200 * 200 * 200)

    def test_small_scribes(self):
        source = random.Random(71)
        scribes = list(some_plain_scribes(400, 73)) + list(some_plain_scribes(400, 75, ("", "a", "c", "bb", "b")))
        for one in scribes:
            self.joined(one, source.choice(scribes), texts_up_to("abc", 3))

    def test_small_scribes_that_write_for_most_texts(self):
        source = random.Random(83)
        scribes = [with_most_steps(scribe, source) for scribe in some_plain_scribes(400, 85)]
        written = 0
        for one in scribes:
            told = self.joined(one, source.choice(scribes), texts_up_to("ab", 4))
            written += told[1] > 2
        self.assertGreater(written, 100)

    def test_three_joined_either_way_about(self):
        source = random.Random(77)
        scribes = [with_most_steps(scribe, source) for scribe in some_plain_scribes(200, 79, most=5)]
        unlike = set()
        for one in scribes:
            two, three = source.sample(scribes, 2)
            first = joined_behind(joined_behind(one, two), three)
            last = joined_behind(one, joined_behind(two, three))
            self.assertIsNone(apart_text(first, last))
            self.assertEqual(plainest_of(first), plainest_of(last))
            unlike.add(repr(plainest_of(first)))
        self.assertGreater(len(unlike), 30)

    def test_signs_of_the_two_unlike(self):
        one = ("dc", 2, [(0, "x")], [(0, "d", "y", 1), (1, "c", "x", 0)], [(0, ""), (1, "")])
        told = self.joined(one, BY_TURNS, texts_up_to("cd", 5) + ["x", "y", "xy"])
        self.assertEqual(told[0], "dc")
        self.assertEqual(written_for(told, "dc"), "bcccc")
        self.assertIsNone(written_for(told, "x"))

    def test_the_lists_told_are_the_asker_s_own(self):
        for one, other in ((ECHO, copier("oxyz")), (copier("ab"), ECHO), (NO_ROOMS, ECHO), (ECHO, NO_ROOMS),
                           (NOTHING_WRITTEN[0], NOTHING_WRITTEN[1]), (copier("a"), row_scribe(4, "x"))):
            told_as_own(self, joined_behind, one, other)

    def test_a_scribe_changed_later_is_asked_anew(self):
        one = copier("ab")
        other = ("ab", 1, [(0, "")], [(0, "a", "x", 0)], [])
        self.nothing(one, other)
        other[4].append((0, "y"))
        self.assertEqual(written_for(self.joined(one, other, texts_up_to("ab", 3)), "aa"), "xxy")


if __name__ == "__main__":
    unittest.main()
