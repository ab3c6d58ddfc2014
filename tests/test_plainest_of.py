"""Points 17 and 18: the one plainest form."""

import itertools
import os.path
import random
import unittest

from samples import (ECHO, NO_ROOMS, NOTHING_WRITTEN, PLAIN_MIXED, left_as_it_was, row_scribe, scribe_of_words,
                     some_plain_scribes, texts_up_to, told_as_own, with_other_numbers, with_rooms_doubled,
                     with_rooms_of_no_use, with_words_shifted)

from earlyscribe.early import earliest_of, heads_of
from earlyscribe.forms import plainest_of
from earlyscribe.scribes import is_plain, is_scribe, written_for
from earlyscribe.trims import useful_rooms


def behaviours(words):
    """What is still to be written behind each beginning of a text, what is sure of it taken off."""
    found = set()
    for begin in {text[:count] for text in words for count in range(len(text) + 1)}:
        behind = {text[len(begin):]: word for text, word in words.items() if text.startswith(begin)}
        shared = len(os.path.commonprefix(list(behind.values())))
        found.add(tuple(sorted((text, word[shared:]) for text, word in behind.items())))
    return found


def every_plain_scribe_of_one_sign(rooms, words):
    """All plain scribes of the sign a with so many rooms and some words."""
    choices = [None] + list(words)
    steps = [None] + [(word, goal) for word in words for goal in range(rooms)]
    for begin in [(room, word) for room in range(rooms) for word in words]:
        for chosen in itertools.product(steps, repeat=rooms):
            for last in itertools.product(choices, repeat=rooms):
                yield ("a", rooms, [begin],
                       [(room, "a") + step for room, step in enumerate(chosen) if step],
                       [(room, word) for room, word in enumerate(last) if word is not None])


class PlainestOf(unittest.TestCase):

    def told(self, scribe, plainest):
        self.assertEqual(self.asked(scribe), plainest)

    def asked(self, scribe):
        told = left_as_it_was(self, plainest_of, scribe)
        self.assertIs(type(told), tuple)
        self.assertTrue(is_scribe(told))
        self.assertTrue(is_plain(told))
        self.assertEqual(plainest_of(told), told)
        self.assertEqual(heads_of(told), [""] * told[1])
        self.assertLessEqual(told[1], len(useful_rooms(scribe)))
        return told

    def test_one_that_is_the_plainest(self):
        self.told(ECHO, ECHO)

    def test_nothing_written(self):
        self.told(NO_ROOMS, NO_ROOMS)
        for scribe in NOTHING_WRITTEN:
            self.told(scribe, ("ba", 0, [], [], []))

    def test_one_room(self):
        self.told(("a", 1, [(0, "o")], [], [(0, "xyz")]), ("a", 1, [(0, "oxyz")], [], [(0, "")]))
        self.told(("ba", 1, [(0, "")], [(0, "a", "x", 0), (0, "b", "y", 0)], [(0, "")]),
                  ("ba", 1, [(0, "")], [(0, "b", "y", 0), (0, "a", "x", 0)], [(0, "")]))

    def test_alike_rooms(self):
        steps = [(0, "a", "x", 1), (0, "b", "x", 2)]
        self.told(("ab", 3, [(0, "")], steps, [(0, "w"), (1, "y"), (2, "y")]),
                  ("ab", 2, [(0, "")], [(0, "a", "xy", 1), (0, "b", "xy", 1)], [(0, "w"), (1, "")]))

    def test_all_rooms_alike(self):
        steps = [(room, "a", "x", (room * 7 + 3) % 200) for room in range(200)]
        self.told(("a", 200, [(9, "y")], steps, [(room, "z") for room in range(200)]),
                  ("a", 1, [(0, "y")], [(0, "a", "x", 0)], [(0, "z")]))

    def test_rooms_alike_only_because_those_behind_them_are(self):
        steps = [(0, "a", "x", 1), (0, "b", "y", 2), (1, "a", "", 3), (2, "a", "", 4), (3, "b", "", 5), (4, "b", "", 6)]
        ends = [(3, "p"), (4, "p"), (5, "q"), (6, "q")]
        self.told(("ab", 7, [(0, "")], steps, ends),
                  ("ab", 4, [(0, "")], [(0, "a", "x", 1), (0, "b", "y", 1), (1, "a", "", 2), (2, "b", "q", 3)],
                   [(2, "p"), (3, "")]))

    def test_rooms_that_only_rooms_far_behind_tell_apart(self):
        # Two rows of ten rooms, and a step more at the last room of one alone.
        steps = [(0, "a", "x", 1), (0, "b", "y", 2)] + [(room, "a", "", room + 2) for room in range(1, 19)]
        both = ("ab", 21, [(0, "")], steps, [(room, "") for room in range(21)])
        apart = ("ab", 21, [(0, "")], steps + [(20, "a", "z", 20)], [(room, "") for room in range(21)])
        self.assertEqual(self.asked(both)[1], 11)
        self.assertEqual(self.asked(apart)[1], 21)

    def test_rounds_that_turn_alike(self):
        # A round of six rooms that is one of two, doubled thrice.
        steps = [(room, "a", "xy"[room % 2], (room + 1) % 6) for room in range(6)]
        ends = [(room, "z") for room in range(6)]
        self.told(("a", 6, [(1, "")], steps, ends),
                  ("a", 2, [(0, "")], [(0, "a", "y", 1), (1, "a", "x", 0)], [(0, "z"), (1, "z")]))

    def test_rooms_that_write_the_same_later(self):
        # Behind b the x comes at the end alone.
        steps = [(0, "a", "x", 1), (0, "b", "", 2), (1, "a", "y", 3)]
        scribe = ("ab", 4, [(0, "")], steps + [(2, "a", "xy", 3)], [(0, ""), (1, "w"), (2, "xw"), (3, "")])
        self.told(scribe, ("ab", 3, [(0, "")], [(0, "a", "x", 1), (0, "b", "x", 1), (1, "a", "y", 2)],
                           [(0, ""), (1, "w"), (2, "")]))

    def test_rounds_that_write_the_same_later(self):
        steps = [(0, "a", "", 1), (0, "b", "x", 2), (1, "c", "xy", 1), (2, "c", "yx", 2)]
        self.told(("abc", 3, [(0, "")], steps, [(0, ""), (1, "xz"), (2, "z")]),
                  ("abc", 2, [(0, "")], [(0, "a", "x", 1), (0, "b", "x", 1), (1, "c", "yx", 1)], [(0, ""), (1, "z")]))

    def test_rooms_that_differ_are_not_made_one(self):
        unlike = {
            "words of ends": ("ab", 3, [(0, "")],
                              [(0, "a", "x", 1), (0, "b", "y", 2), (1, "a", "z", 1), (2, "a", "z", 2)],
                              [(1, ""), (2, "x")]),
            "an end alone": ("ab", 3, [(0, "")],
                             [(0, "a", "x", 1), (0, "b", "y", 2), (1, "a", "", 2), (2, "a", "z", 2)], [(2, "")]),
            "words of steps": ("ab", 3, [(0, "")],
                               [(0, "a", "x", 1), (0, "b", "y", 2), (1, "a", "z", 1), (2, "a", "w", 2)],
                               [(1, ""), (2, "")]),
            "signs of steps": ("ab", 3, [(0, "")],
                               [(0, "a", "x", 1), (0, "b", "y", 2), (1, "a", "z", 1), (2, "b", "z", 2)],
                               [(1, ""), (2, "")]),
            "rooms behind": ("ab", 4, [(0, "")],
                             [(0, "a", "x", 1), (0, "b", "y", 2), (1, "a", "", 0), (2, "a", "", 3)],
                             [(0, ""), (1, ""), (2, ""), (3, "")]),
        }
        for name, scribe in unlike.items():
            with self.subTest(name):
                self.assertEqual(self.asked(scribe)[1], scribe[1])

    def test_rooms_are_numbered_as_they_are_come_to(self):
        # c goes first among the signs, then a, then b.
        steps = [(4, "a", "p", 2), (4, "b", "q", 0), (4, "c", "r", 3), (3, "b", "s", 1), (2, "c", "t", 4),
                 (0, "a", "u", 0), (1, "b", "v", 4), (1, "a", "w", 3), (3, "c", "x", 0)]
        ends = [(0, "m"), (1, ""), (2, "n"), (3, ""), (4, "")]
        self.told(
            ("cab", 5, [(4, "o")], steps, ends),
            ("cab", 5, [(0, "o")],
             [(0, "c", "r", 1), (0, "a", "p", 2), (0, "b", "q", 3), (1, "c", "x", 3), (1, "b", "s", 4),
              (2, "c", "t", 0), (3, "a", "u", 3), (4, "a", "w", 1), (4, "b", "v", 0)],
             [(0, ""), (1, ""), (2, "n"), (3, "m"), (4, "")]))

    def test_the_order_of_signs_settles_the_numbers(self):
        steps = [(0, "a", "x", 1), (0, "b", "y", 2), (1, "a", "z", 1)]
        ends = [(1, ""), (2, "")]
        self.told(("ab", 3, [(0, "")], steps, ends),
                  ("ab", 3, [(0, "")], [(0, "a", "x", 1), (0, "b", "y", 2), (1, "a", "z", 1)], [(1, ""), (2, "")]))
        self.told(("ba", 3, [(0, "")], steps, ends),
                  ("ba", 3, [(0, "")], [(0, "b", "y", 1), (0, "a", "x", 2), (2, "a", "z", 2)], [(1, ""), (2, "")]))

    def test_all_signs_of_the_alphabet_from_the_last(self):
        signs = "zyxwvutsrqponmlkjihgfedcba"
        scribe = scribe_of_words(signs, {sign: sign for sign in sorted(signs)})
        self.told(scribe, (signs, 2, [(0, "")], [(0, sign, sign, 1) for sign in signs], [(1, "")]))

    def test_rooms_of_no_use_are_left_out(self):
        steps = [(0, "a", "", 1), (1, "b", "y", 2), (2, "b", "v", 2), (2, "a", "xy", 0)]
        self.told(PLAIN_MIXED, ("ba", 3, [(0, "uxy")], steps, [(1, "q"), (2, "p")]))

    def test_two_hundred_rooms(self):
        word = "ab" * 100
        silent = [(room, "a", "", room + 1) for room in range(199)]
        signs, rooms, begins, steps, ends = row_scribe(200, word)
        self.told((signs, rooms, begins, steps, [(199, word)]), ("a", 200, [(0, word * 200)], silent, [(199, "")]))
        self.told((signs, rooms, begins, steps, [(0, ""), (199, word)]),
                  ("a", 200, [(0, "")], [(0, "a", word * 200, 1)] + silent[1:], [(0, ""), (199, "")]))

    def test_two_hundred_rooms_with_other_numbers(self):
        source = random.Random(33)
        steps = [(room, sign, source.choice(["", "a", "ab", "b"]), source.randrange(200))
                 for room in range(200) for sign in "ba"]
        scribe = ("ba", 200, [(77, "a")], steps, [(room, "a") for room in range(0, 200, 9)])
        told = self.asked(scribe)
        self.assertGreater(told[1], 150)
        for turn in range(3):
            self.assertEqual(plainest_of(with_other_numbers(with_words_shifted(scribe, source), source)), told)

    def test_a_hundred_rooms_doubled(self):
        source = random.Random(35)
        steps = [(room, sign, source.choice(["", "a", "ab", "b"]), source.randrange(100))
                 for room in range(100) for sign in "ba"]
        scribe = ("ba", 100, [(7, "a")], steps, [(room, "a") for room in range(0, 100, 9)])
        double = with_other_numbers(with_rooms_doubled(scribe, source), source)
        self.assertEqual(self.asked(double), self.asked(scribe))

    def test_longer_words_that_were_told(self):
        word = "ab" * 20000
        self.told(("ab", 3, [(0, word)], [(0, "a", word + "a", 1), (0, "b", word, 2)], [(1, "b"), (2, "ab")]),
                  ("ab", 2, [(0, word + word + "ab")], [(0, "a", "", 1), (0, "b", "", 1)], [(1, "")]))

    def test_other_scribes_that_write_alike_have_the_same_form(self):
        source = random.Random(37)
        changes = (with_other_numbers, with_rooms_doubled, with_rooms_of_no_use, with_words_shifted)
        shifted = 0
        for scribe in some_plain_scribes(300, 39, most=4):
            told = self.asked(scribe)
            shifted += with_words_shifted(scribe, source) != scribe
            for change in changes:
                other = change(scribe, source)
                self.assertTrue(is_plain(other))
                self.assertEqual(self.asked(other), told, (scribe, other))
            for change in source.sample(changes, 4):
                scribe = change(scribe, source)
            self.assertEqual(self.asked(scribe), told)
        self.assertGreater(shifted, 100)

    def test_the_same_word_is_written(self):
        for scribe in some_plain_scribes(300, 41):
            told = self.asked(scribe)
            for text in texts_up_to("abc", 4):
                self.assertEqual(written_for(told, text), written_for(scribe, text), (scribe, text))

    def test_it_is_the_earliest_with_rooms_made_one(self):
        for scribe in some_plain_scribes(300, 43):
            earliest = earliest_of(scribe)
            told = self.asked(scribe)
            self.assertEqual([word for room, word in told[2]], [word for room, word in earliest[2]])
            self.assertEqual({step[1:3] for step in told[3]}, {step[1:3] for step in earliest[3]})
            self.assertEqual({word for room, word in told[4]}, {word for room, word in earliest[4]})

    def test_every_small_scribe_of_one_sign(self):
        # The same form just where the same words are written, and none that writes them has fewer rooms.
        forms = {}
        for rooms in (1, 2):
            for scribe in every_plain_scribe_of_one_sign(rooms, ["", "a", "ab"]):
                words = tuple(written_for(scribe, "a" * count) for count in range(9))
                form = plainest_of(scribe)
                self.assertEqual(forms.setdefault(words, form), form, scribe)
                self.assertLessEqual(form[1], rooms)
        self.assertEqual(len(set(map(repr, forms.values()))), len(forms))
        self.assertGreater(len(forms), 500)

    def test_small_scribes_of_two_signs(self):
        forms = {}
        for scribe in some_plain_scribes(1500, 45, ("", "a"), most=2):
            words = tuple(written_for(scribe, text) for text in texts_up_to("ab", 6))
            form = plainest_of(scribe)
            self.assertEqual(forms.setdefault(words, form), form, scribe)
        self.assertEqual(len(set(map(repr, forms.values()))), len(forms))
        self.assertGreater(len(forms), 100)

    def test_every_few_words(self):
        # As many rooms as there are unlike things still to be written, and unlike forms for unlike words.
        texts = ["", "a", "aa", "b"]
        forms = set()
        for chosen in itertools.product([None, "", "x", "xy"], repeat=len(texts)):
            words = {text: word for text, word in zip(texts, chosen) if word is not None}
            form = self.asked(scribe_of_words("ba", words))
            self.assertEqual(form[1], len(behaviours(words)), words)
            forms.add(repr(form))
        self.assertEqual(len(forms), 4 ** len(texts))

    def test_a_difference_for_one_text_alone(self):
        texts = texts_up_to("ab", 6)
        words = {text: text.replace("b", "") for text in texts}
        form = self.asked(scribe_of_words("ab", words))
        for text in texts[::9] + texts[-1:]:
            for word in (words[text] + "a", "b" + words[text], words[text] + "b"):
                self.assertNotEqual(plainest_of(scribe_of_words("ab", {**words, text: word})), form, text)
            fewer = {other: word for other, word in words.items() if other != text}
            self.assertNotEqual(plainest_of(scribe_of_words("ab", fewer)), form, text)

    def test_a_difference_behind_many_steps(self):
        signs, rooms, begins, steps, ends = row_scribe(200, "x")
        forms = [plainest_of((signs, rooms, begins, steps, [(0, ""), (199, word)])) for word in ("", "x", "y")]
        forms.append(plainest_of((signs, rooms, begins, steps, [(0, ""), (198, "x")])))
        for one, other in itertools.combinations(forms, 2):
            self.assertNotEqual(one, other)

    def test_other_signs_have_other_forms(self):
        steps = [(0, "a", "x", 0), (0, "b", "y", 0)]
        forms = [self.asked((signs, 1, [(0, "")], steps, [(0, "")])) for signs in ("ab", "ba", "abc")]
        self.assertEqual([form[0] for form in forms], ["ab", "ba", "abc"])

    def test_the_lists_told_are_the_asker_s_own(self):
        for scribe in (ECHO, NO_ROOMS, row_scribe(4, "x"), ("ba", 2, [], [], [])):
            told_as_own(self, plainest_of, scribe)

    def test_a_scribe_changed_later_is_asked_anew(self):
        scribe = ("a", 1, [(0, "")], [(0, "a", "x", 0)], [])
        self.told(scribe, ("a", 0, [], [], []))
        scribe[4].append((0, "y"))
        self.told(scribe, ("a", 1, [(0, "")], [(0, "a", "x", 0)], [(0, "y")]))


if __name__ == "__main__":
    unittest.main()
