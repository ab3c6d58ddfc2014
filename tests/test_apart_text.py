"""Point 19: a text that tells two plain scribes apart."""

import itertools
import random
import unittest

from samples import (ECHO, NO_ROOMS, NOTHING_WRITTEN, PLAIN_MIXED, left_as_it_was, row_scribe, scribe_of_words,
                     some_plain_scribes, texts_up_to, told_as_own, with_other_numbers, with_rooms_doubled,
                     with_rooms_of_no_use, with_words_shifted)

from earlyscribe.aparts import apart_text
from earlyscribe.early import earliest_of
from earlyscribe.errors import OtherSigns
from earlyscribe.forms import plainest_of
from earlyscribe.scribes import is_plain, written_for
from earlyscribe.trims import trimmed_of

MOST_SIGNS = 1200


def round_scribe(words, last_words):
    """A plain scribe of one round: a word at each step of it, and at each room an end's word or None."""
    count = len(words)
    steps = [(room, "a", word, (room + 1) % count) for room, word in enumerate(words)]
    return ("a", count, [(0, "")], steps, [(room, word) for room, word in enumerate(last_words) if word is not None])


def long_alike(one, other):
    """A row of noughts and ones, one + other - 2 of them, that is the beginning of two unlike rows without end.

    These come round after one and after other places; the two numbers have no divisor in common.
    """
    kinds = list(range(one + other - 2))
    for gap in (one, other):
        for place in range(len(kinds) - gap):
            old, new = kinds[place + gap], kinds[place]
            kinds = [new if kind == old else kind for kind in kinds]
    return [int(kind != kinds[0]) for kind in kinds]


class ApartText(unittest.TestCase):

    def apart(self, one, other):
        """See that both askings tell a text that keeps the two apart, and tell the first."""
        for first, second in ((other, one), (one, other)):
            text = left_as_it_was(self, apart_text, first, second)
            self.assertIs(type(text), str, (first, second))
            self.assertEqual(text.strip(one[0]), "")
            self.assertLessEqual(len(text), MOST_SIGNS)
            self.assertNotEqual(written_for(first, text), written_for(second, text), text)
            self.assertEqual(apart_text(first, second), text)
        return text

    def alike(self, one, other):
        for first, second in ((one, other), (other, one)):
            self.assertIsNone(left_as_it_was(self, apart_text, first, second), (first, second))

    def refused(self, one, other):
        for first, second in ((one, other), (other, one)):
            with self.assertRaises(OtherSigns) as caught:
                left_as_it_was(self, apart_text, first, second)
            self.assertIs(type(caught.exception), OtherSigns)

    def test_other_signs(self):
        unlike = ("ab", "ba", "abc", "a", "b", "bac", "cd")
        for one, other in itertools.combinations(unlike, 2):
            with self.subTest(one=one, other=other):
                self.refused((one, 0, [], [], []), (other, 0, [], [], []))
                self.refused((one, 1, [(0, "")], [], [(0, "")]), (other, 1, [(0, "")], [], [(0, "")]))
                self.refused((one, 1, [(0, "x")], [], [(0, "")]), (other, 2, [(0, "y")], [], [(0, "")]))
        for signs in unlike[1:]:
            self.refused(ECHO, (signs,) + row_scribe(3, "x")[1:3] + ([], [(0, "")]))

    def test_one_scribe_twice(self):
        for scribe in (ECHO, NO_ROOMS, PLAIN_MIXED, row_scribe(200, "x")) + NOTHING_WRITTEN:
            self.alike(scribe, scribe)

    def test_nothing_written_by_both(self):
        for one, other in itertools.product(NOTHING_WRITTEN + (("ba", 0, [], [], []),), repeat=2):
            self.alike(one, other)

    def test_nothing_written_by_one(self):
        for scribe in NOTHING_WRITTEN + (("ba", 0, [], [], []),):
            self.assertEqual(self.apart(("ba", 1, [(0, "")], [], [(0, "")]), scribe), "")
            self.assertEqual(self.apart(("ba", 2, [(0, "")], [(0, "a", "", 1)], [(1, "")]), scribe), "a")
            self.apart(PLAIN_MIXED, scribe)

    def test_nothing_written_by_one_with_a_long_way_to_an_end(self):
        self.assertEqual(self.apart(row_scribe(200, ""), ("a", 0, [], [], [])), "a" * 199)

    def test_rooms_with_other_numbers(self):
        steps = [(1, "b", "y", 0), (1, "a", "x", 1), (0, "a", "x", 1)]
        self.alike(ECHO, ("ab", 2, [(1, "o")], steps, [(1, "z"), (0, "")]))

    def test_words_written_earlier_or_later(self):
        self.alike(("a", 1, [(0, "ox")], [], [(0, "")]), ("a", 1, [(0, "")], [], [(0, "ox")]))
        one = ("a", 1, [(0, "")], [(0, "a", "xy", 0)], [(0, "x")])
        self.alike(one, ("a", 1, [(0, "x")], [(0, "a", "yx", 0)], [(0, "")]))
        self.apart(one, ("a", 1, [(0, "x")], [(0, "a", "xy", 0)], [(0, "")]))

    def test_rooms_of_no_use(self):
        self.alike(PLAIN_MIXED, trimmed_of(PLAIN_MIXED))

    def test_a_round_that_is_gone_through_to_no_end(self):
        one = ("ab", 3, [(0, "")], [(0, "a", "x", 1), (1, "a", "y", 2), (2, "a", "z", 1)], [(0, "w")])
        self.alike(one, ("ab", 1, [(0, "w")], [], [(0, "")]))
        self.apart(one, ("ab", 1, [(0, "w")], [(0, "a", "", 0)], [(0, "")]))

    def test_rounds_of_unlike_lengths_that_write_alike(self):
        self.alike(round_scribe(["x"] * 199, ["z"] * 199), round_scribe(["x"] * 200, ["z"] * 200))
        self.alike(round_scribe(["x", "y"] * 99, ["", None] * 99), round_scribe(["x", "y"] * 100, ["", None] * 100))

    def test_words_that_part_at_the_begin(self):
        steps = [(0, "a", "x", 1)]
        for one, other in itertools.combinations(("", "x", "y", "xx", "xy"), 2):
            for ends in ([(1, "")], [(0, ""), (1, "x")], [(0, "x"), (1, "")], [(0, "y"), (1, "x")]):
                with self.subTest(one=one, other=other, ends=ends):
                    self.apart(("a", 2, [(0, one)], steps, ends), ("a", 2, [(0, other)], steps, ends))

    def test_words_that_part_at_a_step(self):
        for one, other in itertools.combinations(("", "x", "y", "xx", "xy"), 2):
            for ends in ([(1, "")], [(0, ""), (1, "x")], [(0, "x"), (1, "")], [(0, "y"), (1, "y")]):
                with self.subTest(one=one, other=other, ends=ends):
                    self.apart(("ba", 2, [(0, "")], [(0, "a", one, 1), (1, "b", "x", 0)], ends),
                               ("ba", 2, [(0, "")], [(0, "a", other, 1), (1, "b", "x", 0)], ends))

    def test_words_that_part_at_an_end(self):
        for one, other in itertools.combinations(("", "x", "y", "xx", "xy"), 2):
            with self.subTest(one=one, other=other):
                steps = [(0, "a", "x", 1), (0, "b", "y", 0)]
                self.apart(("ab", 2, [(0, "")], steps, [(1, one)]), ("ab", 2, [(0, "")], steps, [(1, other)]))
                text = self.apart(("ab", 2, [(0, "")], steps, [(0, "x"), (1, one)]),
                                  ("ab", 2, [(0, "")], steps, [(0, "x"), (1, other)]))
                self.assertTrue(text.endswith("a"))

    def test_words_unlike_in_length_alone(self):
        one = ("a", 1, [(0, "x")], [(0, "a", "x", 0)], [(0, "x")])
        for other in (("a", 1, [(0, "xx")], [(0, "a", "x", 0)], [(0, "x")]),
                      ("a", 1, [(0, "x")], [(0, "a", "xx", 0)], [(0, "x")]),
                      ("a", 1, [(0, "")], [(0, "a", "x", 0)], [(0, "x")])):
            self.apart(one, other)
        self.alike(one, ("a", 1, [(0, "xx")], [(0, "a", "x", 0)], [(0, "")]))

    def test_the_empty_text_alone(self):
        words = {text: "x" * len(text) for text in texts_up_to("ab", 3)}
        for word in ("x", "y", None):
            other = {text: last for text, last in {**words, "": word}.items() if last is not None}
            self.assertEqual(self.apart(scribe_of_words("ab", words), scribe_of_words("ab", other)), "")

    def test_a_text_for_which_just_one_writes_a_word(self):
        words = {text: "x" * len(text) for text in texts_up_to("ab", 4)}
        for text in texts_up_to("ab", 4):
            fewer = {other: word for other, word in words.items() if other != text}
            self.assertEqual(self.apart(scribe_of_words("ab", words), scribe_of_words("ab", fewer)), text)

    def test_a_difference_for_one_text_alone(self):
        words = {text: text.replace("b", "") for text in texts_up_to("ab", 6)}
        one = scribe_of_words("ab", words)
        for text in list(words)[::9] + list(words)[-1:]:
            for word in (words[text] + "a", "b" + words[text], words[text] + "b"):
                self.assertEqual(self.apart(one, scribe_of_words("ab", {**words, text: word})), text)

    def test_words_that_part_only_behind_rounds(self):
        # Room 1 is a round; the words part behind it alone.
        steps = [(0, "a", "x", 1), (1, "a", "y", 1)]
        self.apart(("ab", 3, [(0, "")], steps + [(1, "b", "z", 2)], [(2, "")]),
                   ("ab", 3, [(0, "")], steps + [(1, "b", "w", 2)], [(2, "")]))
        # The rounds write ab and ba, the a ahead of them or not.
        self.alike(("ab", 1, [(0, "a")], [(0, "a", "ba", 0)], [(0, "")]),
                   ("ab", 1, [(0, "")], [(0, "a", "ab", 0)], [(0, "a")]))
        self.apart(("ab", 1, [(0, "a")], [(0, "a", "ba", 0)], [(0, "")]),
                   ("ab", 1, [(0, "a")], [(0, "a", "ab", 0)], [(0, "")]))

    def test_words_of_which_one_is_ahead_for_a_long_time(self):
        # The rest of the longer word comes behind a long row, for one sign alone.
        row = [(room, "a", "", room + 1) for room in range(197)]
        ends = [(198, ""), (199, "")]
        one = ("ab", 200, [(0, "")], row + [(197, "a", "x", 198), (197, "b", "y", 199)], ends)
        other = ("ab", 200, [(0, "x")], row + [(197, "a", "", 198), (197, "b", "y", 199)], ends)
        self.assertEqual(self.apart(one, other), "a" * 197 + "b")

    def test_a_row_silent_for_long_and_a_row_to_the_end(self):
        # Where a y is written is far behind the begin, and the end is far behind that.
        def scribe(begin, first):
            steps = [(room, "a", "", room + 1) for room in range(99)]
            steps += [(99, "a", first, 100), (99, "b", "y", 100)]
            steps += [(room, "a", "z", room + 1) for room in range(100, 199)]
            return ("ab", 200, [(0, begin)], steps, [(199, "")])

        self.assertEqual(len(self.apart(scribe("", "x"), scribe("x", "x"))), 199)
        self.assertEqual(len(self.apart(scribe("", "x"), scribe("", "xz"))), 199)
        self.alike(scribe("xy", ""), scribe("xy", ""))

    def test_rounds_that_part_as_late_as_can_be(self):
        for one, other in ((2, 3), (3, 5), (7, 8), (199, 200), (101, 200), (197, 200)):
            kinds = long_alike(one, other)
            self.assertEqual(len(set(kinds)), 2)
            for last_words in (("", "x"), ("y", "x"), ("", None)):
                ends = [last_words[kind] for kind in kinds]
                text = self.apart(round_scribe(["x"] * one, ends[:one]), round_scribe(["x"] * other, ends[:other]))
                self.assertGreaterEqual(len(text), one + other - 2)

    def test_rounds_of_steps_that_part_as_late_as_can_be(self):
        for one, other in ((2, 3), (7, 8), (199, 200)):
            words = ["xy"[kind] for kind in long_alike(one, other)]
            for word in ("", "x"):
                self.apart(round_scribe(words[:one], [word] * one), round_scribe(words[:other], [word] * other))
            self.apart(round_scribe(words[:one], [""] + [None] * (one - 1)),
                       round_scribe(words[:other], [""] + [None] * (other - 1)))

    def test_rounds_that_end_at_one_room_alone(self):
        # They come to an end by the same text behind 199 * 200 signs, but apart long ahead of that.
        one = round_scribe(["x"] * 199, ["z"] + [None] * 198)
        other = round_scribe(["x"] * 200, ["z"] + [None] * 199)
        self.assertLessEqual(len(self.apart(one, other)), 200)
        self.apart(one[:4] + ([(7, "z")],), other[:4] + ([(7, "z")],))
        self.apart(one[:4] + ([(7, "z")],), other[:4] + ([(8, "z")],))

    def test_rows_that_part_at_their_last_room(self):
        signs, rooms, begins, steps, ends = row_scribe(200, "x")
        scribes = [(signs, rooms, begins, steps, [(0, ""), (199, word)]) for word in ("", "x", "y")]
        scribes.append((signs, rooms, begins, steps[:-1], [(0, "")]))
        scribes.append((signs, rooms, begins, steps + [(199, "a", "x", 0)], [(0, ""), (199, "")]))
        for one, other in itertools.combinations(scribes, 2):
            self.assertGreaterEqual(len(self.apart(one, other)), 199)

    def test_long_words(self):
        word = "ab" * 100
        signs, rooms, begins, steps, ends = row_scribe(200, word)
        one = (signs, rooms, begins, steps, [(0, ""), (199, word)])
        self.alike(one, earliest_of(one))
        self.alike(one, plainest_of(one))
        self.apart(one, (signs, rooms, begins, steps, [(0, ""), (199, word + "a")]))
        self.apart(earliest_of(one), (signs, rooms, begins, steps[:-1] + [(198, "a", word[1:], 199)], one[4]))

    def test_two_hundred_rooms_that_write_alike(self):
        source = random.Random(51)
        steps = [(room, sign, source.choice(["", "a", "ab", "b"]), source.randrange(200))
                 for room in range(200) for sign in "ba"]
        scribe = ("ba", 200, [(77, "a")], steps, [(room, "a") for room in range(0, 200, 9)])
        for turn in range(3):
            self.alike(scribe, with_other_numbers(with_words_shifted(scribe, source), source))
        self.alike(scribe, plainest_of(scribe))

    def test_two_hundred_rooms_with_one_thing_changed(self):
        source = random.Random(53)
        apart = 0
        for turn in range(60):
            steps = [(room, sign, source.choice(["", "a", "ab"]), (room + source.choice([1, 1, 1, 2])) % 200)
                     for room in range(200) for sign in "ba" if sign == "b" or source.random() < 0.2]
            one = ("ba", 200, [(0, "a")], steps, [(room, "a") for room in range(0, 200, 9)])
            place = source.randrange(len(steps))
            start, sign, word, goal = steps[place]
            step = source.choice([(start, sign, word + "a", goal), (start, sign, word, (goal + 1) % 200)])
            other = one[:3] + (steps[:place] + [step] + steps[place + 1:], one[4])
            if plainest_of(one) == plainest_of(other):
                self.alike(one, other)
            else:
                self.apart(one, other)
                apart += 1
        self.assertGreater(apart, 20)

    def test_other_scribes_that_write_alike(self):
        source = random.Random(55)
        changes = (with_other_numbers, with_rooms_doubled, with_rooms_of_no_use, with_words_shifted)
        for scribe in some_plain_scribes(200, 57, most=4):
            for change in changes:
                other = change(scribe, source)
                self.assertTrue(is_plain(other))
                self.alike(scribe, other)
            other = scribe
            for change in source.sample(changes, 4):
                other = change(other, source)
            self.alike(scribe, other)
            self.alike(scribe, plainest_of(scribe))

    def test_none_just_where_the_plainest_forms_are_the_same(self):
        scribes = list(some_plain_scribes(60, 59)) + list(some_plain_scribes(60, 61, ("", "a"), most=2))
        forms = [plainest_of(scribe) for scribe in scribes]
        alike = 0
        for one, other in itertools.combinations(range(len(scribes)), 2):
            if forms[one] == forms[other]:
                self.alike(scribes[one], scribes[other])
                alike += 1
            else:
                self.apart(scribes[one], scribes[other])
        self.assertGreater(alike, 50)

    def test_small_scribes_with_one_thing_changed(self):
        source = random.Random(63)
        words = ["", "a", "b", "ab", "aa"]
        for scribe in some_plain_scribes(600, 65, most=4):
            signs, rooms, begins, steps, ends = scribe
            begins = [(room, source.choice([word, word + "a"])) for room, word in begins]
            steps = [step if source.random() < 0.8 else step[:2] + (source.choice(words), step[3]) for step in steps]
            ends = [end if source.random() < 0.8 else (end[0], source.choice(words)) for end in ends]
            other = (signs, rooms, begins, steps, ends)
            if plainest_of(scribe) == plainest_of(other):
                self.alike(scribe, other)
            else:
                self.apart(scribe, other)

    def test_all_signs_of_the_alphabet(self):
        signs = "zyxwvutsrqponmlkjihgfedcba"
        words = {sign: sign for sign in signs}
        for sign in signs:
            other = {**words, sign: "x" if sign != "x" else "y"}
            self.assertEqual(self.apart(scribe_of_words(signs, words), scribe_of_words(signs, other)), sign)

    def test_the_same_answer_whatever_is_done_to_what_was_handed_in(self):
        told_as_own(self, apart_text, ECHO, ("ab", 1, [(0, "o")], [(0, "a", "x", 0)], [(0, "z")]))
        told_as_own(self, apart_text, ECHO, plainest_of(ECHO))

    def test_a_scribe_changed_later_is_asked_anew(self):
        one = ("a", 1, [(0, "")], [(0, "a", "x", 0)], [])
        other = ("a", 1, [(0, "")], [(0, "a", "x", 0)], [])
        self.alike(one, other)
        one[4].append((0, "y"))
        self.apart(one, other)
        other[4].append((0, "y"))
        self.alike(one, other)


if __name__ == "__main__":
    unittest.main()
