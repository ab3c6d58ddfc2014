"""Points 1 to 7 over the whole program: what one function tells is handed in to the others."""

import unittest

from samples import (ECHO, MIXED, NO_ROOMS, NOTHING_WRITTEN, left_as_it_was, refused_with, side_by_side,
                     some_plain_scribes, some_scribes, texts_up_to)

from earlyscribe.aparts import apart_text
from earlyscribe.choices import two_ways
from earlyscribe.early import earliest_of, heads_of
from earlyscribe.errors import NeverPlain, NotPlain, OtherSigns, TooMany, TwoWays
from earlyscribe.forms import plainest_of
from earlyscribe.joins import joined_behind
from earlyscribe.makings import made_plain
from earlyscribe.mirrors import either_of, kept_to, mirrored
from earlyscribe.passes import first_way, two_passes
from earlyscribe.scribes import all_written, is_plain, is_scribe, walked_by, written_for
from earlyscribe.texts import read_scribe, shown_scribe
from earlyscribe.trims import trimmed_of, useful_rooms, way_through

TEXTS = texts_up_to("ab", 4)


def words_for(scribe, texts=TEXTS):
    """What a scribe writes for each of some texts."""
    return [all_written(scribe, text) for text in texts]


def made_or_none(scribe):
    """The plain scribe that writes the same, or None where it is refused."""
    try:
        return made_plain(scribe)
    except (TwoWays, NeverPlain):
        return None


class WholeProgram(unittest.TestCase):

    def told(self, ask, *handed):
        """Ask, and see that a scribe is told that can be written down and read again, and tell it."""
        told = left_as_it_was(self, ask, *handed)
        self.assertTrue(is_scribe(told), told)
        self.assertEqual(read_scribe(shown_scribe(told)), told)
        return told

    def test_two_ways_from_the_end(self):
        counts = [0, 0]
        for scribe in list(some_scribes(800, 301)) + list(some_scribes(800, 303, ("", "", "a"))) + [ECHO, NO_ROOMS]:
            there = two_ways(scribe) is None
            self.assertEqual(two_ways(self.told(mirrored, scribe)) is None, there)
            counts[there] += 1
        self.assertGreater(min(counts), 200)

    def test_made_plain_and_on(self):
        count = 0
        for scribe in list(some_scribes(2000, 305, ("", "", "a"))) + list(some_plain_scribes(50, 306)):
            made = made_or_none(scribe)
            if made is None:
                continue
            words = words_for(trimmed_of(scribe))
            for ask in (made_plain, trimmed_of, earliest_of, plainest_of):
                self.assertEqual(words_for(self.told(ask, made)), words)
            self.assertEqual(self.told(made_plain, made), made)
            self.assertIsNone(apart_text(made, plainest_of(made)))
            self.assertIsNone(two_ways(made))
            self.assertEqual(useful_rooms(made), list(range(made[1])))
            self.assertNotIn(None, heads_of(made))
            self.assertEqual([way_through(made, room) is None for room in range(made[1])], [False] * made[1])
            count += made[1] > 1
        self.assertGreater(count, 90)

    def test_both_ways_about_and_back(self):
        # The plain form from the end, and then again from the end, is plain and writes the same.
        count = 0
        for scribe in some_plain_scribes(300, 307):
            turned = made_or_none(self.told(mirrored, scribe))
            if turned is None:
                continue
            again = made_or_none(self.told(mirrored, turned))
            if again is not None and again[1] <= 200:
                self.assertEqual(plainest_of(again), plainest_of(scribe))
                count += 1
        self.assertGreater(count, 150)

    def test_either_of_and_on(self):
        scribes = list(some_plain_scribes(200, 309))
        made = 0
        for one, other in zip(scribes, reversed(scribes)):
            both = self.told(either_of, one, other)
            self.assertEqual(both, side_by_side(one, other))
            words = words_for(both)
            self.assertEqual(words_for(self.told(trimmed_of, both)), words)
            # Kept to the texts of one, to those of the other, and both of these.
            parts = either_of(kept_to(both, one), kept_to(both, other))
            self.assertEqual(words_for(self.told(trimmed_of, parts)), words)
            plain = made_or_none(both)
            if plain is not None:
                self.assertEqual(words_for(plain), words)
                self.assertIsNone(apart_text(made_plain(trimmed_of(kept_to(plain, one))), plainest_of(one)))
                made += 1
            elif two_ways(both) is None:
                refused_with(self, NeverPlain, made_plain, both)
        self.assertGreater(made, 20)

    def test_kept_to_one_another(self):
        scribes = list(some_plain_scribes(200, 311))
        for one, other in zip(scribes, reversed(scribes)):
            there = self.told(kept_to, one, other)
            self.assertTrue(is_plain(there))
            self.assertEqual(self.told(plainest_of, kept_to(kept_to(one, other), other)), plainest_of(there))
            turned = kept_to(mirrored(one), mirrored(other))
            self.assertEqual(turned, mirrored(there))

    def test_two_passes_and_on(self):
        count = 0
        for scribe in some_scribes(500, 313, ("", "a", "b")):
            back, forth = two_passes(scribe)
            for ask in (trimmed_of, earliest_of, plainest_of, mirrored):
                self.told(ask, back)
                self.told(ask, forth)
            if back[1] <= 8:
                # What back writes from the end, read from the beginning; forth reads it.
                ahead = made_or_none(mirrored(back))
                if ahead is not None and ahead[1] * forth[1] <= 200:
                    whole = self.told(joined_behind, ahead, forth)
                    for text in TEXTS:
                        way = first_way(scribe, text)
                        word = None if way is None else walked_by(scribe, way)[1]
                        self.assertEqual(written_for(whole, text), word)
                    count += 1
        self.assertGreater(count, 100)

    def test_two_passes_of_a_scribe_that_writes_one_word_at_most(self):
        count = 0
        for scribe in some_scribes(500, 315, ("", "", "a")):
            if two_ways(scribe) is None:
                back, forth = two_passes(scribe)
                for text in TEXTS:
                    word = written_for(back, text[::-1])
                    self.assertEqual([] if word is None else [written_for(forth, word[::-1])],
                                     all_written(trimmed_of(scribe), text))
                count += 1
        self.assertGreater(count, 100)

    def test_joined_and_on(self):
        scribes = list(some_plain_scribes(200, 317))
        for one, other in zip(scribes, reversed(scribes)):
            joined = self.told(joined_behind, one, other)
            # The same with each of the two made plain once more.
            again = joined_behind(made_plain(one), made_plain(other))
            self.assertIsNone(apart_text(made_plain(trimmed_of(joined)) if joined[1] <= 8 else joined, again))

    def test_longer_and_longer_rows_of_functions(self):
        scribe = ECHO
        for turn in range(6):
            scribe = self.told(either_of, scribe, scribe)
            scribe = self.told(mirrored, scribe)
            scribe = self.told(kept_to, scribe, ("ab", 1, [(0, "x")], [(0, "a", "", 0), (0, "b", "yy", 0)], [(0, "")]))
        self.assertEqual(scribe[1], 128)
        self.assertEqual(all_written(scribe, "aab"), ["oxxy"])
        self.assertEqual(first_way(scribe, "aab"), (0, [0, 0, 1], 1))
        self.assertEqual(len(useful_rooms(scribe)), 128)
        refused_with(self, TooMany, either_of, scribe, scribe)
        refused_with(self, TooMany, made_plain, scribe)
        refused_with(self, NotPlain, plainest_of, scribe)

    def test_what_writes_nothing(self):
        for scribe in (NO_ROOMS,) + NOTHING_WRITTEN:
            nothing = (scribe[0], 0, [], [], [])
            self.assertEqual(made_plain(scribe), nothing)
            self.assertEqual(made_plain(mirrored(scribe)), nothing)
            self.assertEqual(made_plain(either_of(scribe, nothing)), nothing)
            self.assertEqual(kept_to(scribe, nothing), nothing)
            self.assertEqual(trimmed_of(kept_to(scribe, scribe)), nothing)
            self.assertIsNone(first_way(either_of(scribe, scribe), ""))
            for one in two_passes(scribe):
                self.assertEqual(plainest_of(one)[1:], nothing[1:])

    def test_the_refusal_that_is_told_first(self):
        choices = ("ab", 200, [(0, ""), (1, "")], [], [(0, "")])
        others = ("ba", 200, [(0, ""), (1, "")], [], [(0, "")])
        refused_with(self, OtherSigns, either_of, choices, others)
        refused_with(self, OtherSigns, kept_to, choices, others)
        refused_with(self, NotPlain, apart_text, choices, others)
        refused_with(self, NotPlain, joined_behind, choices, others)
        refused_with(self, TooMany, two_passes, choices)
        refused_with(self, TooMany, made_plain, choices)
        refused_with(self, TooMany, two_ways, choices)

    def test_rooms_of_no_use(self):
        self.assertEqual(words_for(mirrored(trimmed_of(MIXED))), words_for(trimmed_of(mirrored(MIXED))))
        self.assertEqual(trimmed_of(mirrored(MIXED)), mirrored(trimmed_of(MIXED)))


if __name__ == "__main__":
    unittest.main()
