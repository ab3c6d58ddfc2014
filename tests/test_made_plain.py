"""Points 21, 23 and 24: the plain scribe that writes the same as one with choices."""

import os
import random
import unittest

from samples import (ECHO, MIXED, NO_ROOMS, NOTHING_WRITTEN, left_as_it_was, refused_with, row_scribe, side_by_side,
                     some_plain_scribes, some_scribes, texts_up_to, told_as_own, two_rounds, with_other_numbers,
                     with_rooms_doubled, with_rooms_of_no_use, with_words_shifted)

from earlyscribe.choices import two_ways
from earlyscribe.errors import NeverPlain, TooMany, TwoWays
from earlyscribe.forms import plainest_of
from earlyscribe.makings import made_plain
from earlyscribe.scribes import all_written, is_plain, is_scribe, walked_by, written_for
from earlyscribe.trims import trimmed_of

# The last sign tells whether x or y is written: one begin for each, and the end behind a or behind b alone.
LAST_SIGN = (3, [(0, "x"), (1, "y")],
             [(0, "a", "", 0), (0, "b", "", 0), (1, "a", "", 1), (1, "b", "", 1), (0, "a", "", 2), (1, "b", "", 2)],
             [(2, "")])


def making_by_the_words(scribe, most=200):
    """What the document's words make, or None where there are more sets than so many."""
    signs, rooms, begins, steps, ends = trimmed_of(scribe)
    if rooms == 0:
        return (signs, 0, [], [], [])

    def taken_off(pairs):
        shared = os.path.commonprefix([word for room, word in pairs])
        return shared, frozenset((room, word[len(shared):]) for room, word in pairs)

    opening, first = taken_off(begins)
    sets = [first]
    made_steps = []
    for number, pairs in enumerate(sets):
        for sign in signs:
            behind = [(step[3], word + step[2]) for room, word in pairs for step in steps if step[:2] == (room, sign)]
            if behind:
                shared, goal = taken_off(behind)
                if goal not in sets:
                    sets.append(goal)
                made_steps.append((number, sign, shared, sets.index(goal)))
        if len(sets) > most:
            return None
    made_ends = []
    for number, pairs in enumerate(sets):
        words = {word + last for room, word in pairs for own, last in ends if own == room}
        made_ends += [(number, word) for word in words]
    return (signs, len(sets), [(0, opening)], made_steps, made_ends)


def waiting_lanes(first, second, ends):
    """Two lanes that copy two signs, the second one behind a q; the sign y or z behind these tells which lane it was.

    There are so many signs to be the first one and the second one, and one or two rooms for the ends. So the sets are
    those of no sign, of each first one, of each two, and one or two for the ends.
    """
    signs = "abcdefghijklmnopqrstuvwx"
    steps = []
    for room in (0, 3):
        steps += [(room, sign, sign, room + 1) for sign in signs[:first]]
        steps += [(room + 1, sign, sign, room + 2) for sign in signs[:second]]
    steps += [(2, "y", "", 6), (5, "z", "", 5 + ends)]
    return (signs[:max(first, second)] + "yz", 6 + ends, [(0, ""), (3, "q")], steps, [(6, ""), (5 + ends, "")][:ends])


class MadePlain(unittest.TestCase):

    def made(self, scribe):
        """See that a plain scribe of the same signs is told, and tell it."""
        told = left_as_it_was(self, made_plain, scribe)
        self.assertTrue(is_scribe(told), told)
        self.assertTrue(is_plain(told), told)
        self.assertEqual(told[0], scribe[0])
        return told

    def writes_the_same(self, scribe, told, texts):
        """See what is written for some texts; tell for how many there is a word."""
        count = 0
        for text in texts:
            words = all_written(scribe, text)
            word = written_for(told, text)
            self.assertEqual(words, [] if word is None else [word], (scribe, text))
            count += word is not None
        return count

    def two(self, scribe):
        """See that it is refused with TwoWays, with two ways that show why."""
        error = refused_with(self, TwoWays, made_plain, scribe)
        self.assertIs(type(error.ways), tuple)
        self.assertEqual(len(error.ways), 2)
        for way in error.ways:
            self.assertIs(type(way), tuple)
            self.assertEqual([type(part) for part in way], [int, list, int])
            self.assertLessEqual(len(way[1]), 200)
        one, other = [walked_by(scribe, way) for way in error.ways]
        self.assertEqual(one[0], other[0])
        self.assertNotEqual(one[1], other[1])

    def test_sets_of_pairs(self):
        self.assertEqual(
            self.made(("ab",) + LAST_SIGN),
            ("ab", 3, [(0, "")],
             [(0, "a", "", 1), (0, "b", "", 2), (1, "a", "", 1), (1, "b", "", 2), (2, "a", "", 1), (2, "b", "", 2)],
             [(1, "x"), (2, "y")]))

    def test_the_order_of_signs(self):
        self.assertEqual(
            self.made(("ba",) + LAST_SIGN),
            ("ba", 3, [(0, "")],
             [(0, "b", "", 1), (0, "a", "", 2), (1, "b", "", 1), (1, "a", "", 2), (2, "b", "", 1), (2, "a", "", 2)],
             [(1, "y"), (2, "x")]))
        self.assertEqual(
            self.made(("bca",) + LAST_SIGN)[3],
            [(0, "b", "", 1), (0, "a", "", 2), (1, "b", "", 1), (1, "a", "", 2), (2, "b", "", 1), (2, "a", "", 2)])

    def test_the_longest_word_is_taken_off(self):
        scribe = ("ab", 5, [(0, "pqr"), (1, "pq")],
                  [(0, "a", "xy", 2), (1, "a", "rxz", 3), (2, "a", "t", 2), (3, "b", "t", 4)], [(2, "e"), (4, "f")])
        # The sets are {0 r, 1}, {2 y, 3 z}, {2} and {4}.
        self.assertEqual(
            self.made(scribe),
            ("ab", 4, [(0, "pq")], [(0, "a", "rx", 1), (1, "a", "yt", 2), (1, "b", "zt", 3), (2, "a", "t", 2)],
             [(1, "ye"), (2, "e"), (3, "f")]))

    def test_words_are_not_written_earlier_than_the_making_tells(self):
        # All that room 0 can write begins with x, but there is one pair alone, so nothing is waited for or foreseen.
        scribe = ("ab", 2, [(0, "")], [(0, "a", "xy", 1), (0, "b", "xz", 1)], [(1, "")])
        self.assertEqual(self.made(scribe), scribe)
        self.assertEqual(self.made(("a", 1, [(0, "")], [], [(0, "xyz")])), ("a", 1, [(0, "")], [], [(0, "xyz")]))

    def test_alike_rooms_stay_apart_and_sets_alike_are_one(self):
        # Rooms 1 and 2 are alike, but the sets of just one of them aren't.
        scribe = ("ab", 3, [(0, "")], [(0, "a", "", 1), (0, "b", "", 2)], [(1, "x"), (2, "x")])
        self.assertEqual(self.made(scribe), scribe)
        # By aa, ab and b the same set is come to, {2, 3 y}; by ba that of 3 alone.
        scribe = ("ab", 4, [(0, "")],
                  [(0, "a", "", 1), (1, "a", "", 2), (1, "a", "y", 3), (1, "b", "", 2), (1, "b", "y", 3),
                   (0, "b", "", 2), (0, "b", "y", 3), (3, "a", "", 3)],
                  [(2, "y"), (3, "")])
        self.assertEqual(
            self.made(scribe),
            ("ab", 4, [(0, "")],
             [(0, "a", "", 1), (0, "b", "", 2), (1, "a", "", 2), (1, "b", "", 2), (2, "a", "y", 3), (3, "a", "", 3)],
             [(2, "y"), (3, "")]))

    def test_unlike_words_make_unlike_sets(self):
        # The rooms come to are the same behind a and behind b, but not what is still to be written.
        steps = [(0, "a", "x", 1), (0, "a", "y", 2), (0, "b", "y", 1), (0, "b", "x", 2), (1, "a", "", 3),
                 (2, "b", "", 3)]
        self.assertEqual(
            self.made(("ab", 4, [(0, "")], steps, [(3, "")])),
            ("ab", 4, [(0, "")],
             [(0, "a", "", 1), (0, "b", "", 2), (1, "a", "x", 3), (1, "b", "y", 3), (2, "a", "y", 3), (2, "b", "x", 3)],
             [(3, "")]))

    def test_rooms_of_no_use_are_left_out_first(self):
        # A begin and steps that lead to no end would leave no word in common, and more sets.
        scribe = ("ab", 4, [(3, "zz"), (0, "ab"), (1, "w"), (1, "")],
                  [(0, "a", "x", 0), (0, "a", "y", 3), (0, "b", "y", 3), (3, "a", "", 3), (2, "a", "u", 0),
                   (2, "a", "", 0), (1, "b", "", 1), (1, "b", "v", 1)],
                  [(0, "e"), (2, ""), (2, "f")])
        self.assertEqual(self.made(scribe), ("ab", 1, [(0, "ab")], [(0, "a", "x", 0)], [(0, "e")]))
        self.assertEqual(self.made(trimmed_of(MIXED)), making_by_the_words(MIXED))

    def test_no_rooms_no_begins_no_ends(self):
        for scribe in (NO_ROOMS,) + NOTHING_WRITTEN:
            self.assertEqual(self.made(scribe), (scribe[0], 0, [], [], []))
        steps = [(0, "a", "x", 0), (0, "a", "y", 0), (0, "a", "", 1), (1, "a", "xx", 0)]
        marks = [(0, "x"), (0, "y"), (1, "")]
        self.assertEqual(self.made(("a", 2, [], steps, marks)), ("a", 0, [], [], []))
        self.assertEqual(self.made(("a", 2, marks, steps, [])), ("a", 0, [], [], []))
        self.assertEqual(self.made(("a", 2, [(0, "")], [], [(1, "")])), ("a", 0, [], [], []))

    def test_several_begins(self):
        self.assertEqual(self.made(("a", 3, [(0, "xy"), (1, "x"), (2, "xyz")], [], [(0, "z"), (1, "yz"), (2, "")])),
                         ("a", 1, [(0, "x")], [], [(0, "yz")]))
        self.assertEqual(self.made(("a", 2, [(0, "x"), (1, "x")], [(0, "a", "", 0)], [(0, ""), (1, "")])),
                         ("a", 2, [(0, "x")], [(0, "a", "", 1), (1, "a", "", 1)], [(0, ""), (1, "")]))
        # Begins of one room with unlike words write unlike words, unless the room is of no use.
        self.two(("a", 1, [(0, "x"), (0, "xx")], [], [(0, "")]))
        self.assertEqual(self.made(("a", 2, [(1, "x"), (0, "p"), (1, "xx")], [], [(0, "")])),
                         ("a", 1, [(0, "p")], [], [(0, "")]))

    def test_written_early_on_one_way_and_late_on_the_other(self):
        early = ("ab", 2, [(0, "xx")], [(0, "a", "y", 0), (0, "b", "", 1)], [(1, "")])
        late = ("ab", 2, [(0, "")], [(0, "a", "y", 0), (0, "b", "", 1)], [(1, "")])
        b_alone = ("ab", 2, [(0, "")], [(0, "b", "xx", 1)], [(1, "")])
        # The sets are {0 xx, 2}, {0}, {1, 3} and {1}.
        self.assertEqual(
            self.made(side_by_side(early, b_alone)),
            ("ab", 4, [(0, "")], [(0, "a", "xxy", 1), (0, "b", "xx", 2), (1, "a", "y", 1), (1, "b", "", 3)],
             [(2, ""), (3, "")]))
        self.two(side_by_side(early, late))
        source = random.Random(261)
        made = 0
        for scribe in some_plain_scribes(300, 263, most=4):
            other = with_other_numbers(with_words_shifted(scribe, source), source)
            told = self.made(side_by_side(scribe, other))
            self.assertEqual(plainest_of(told), plainest_of(scribe))
            self.assertEqual(told, making_by_the_words(side_by_side(scribe, other)))
            made += told[1] > 1
        self.assertGreater(made, 100)

    def test_of_a_plain_scribe_it_writes_the_same(self):
        for scribe in [ECHO] + list(some_plain_scribes(300, 265, most=8)):
            told = self.made(scribe)
            self.assertEqual(plainest_of(told), plainest_of(scribe))
            self.assertEqual(told[1], trimmed_of(scribe)[1])
            self.assertEqual(told, making_by_the_words(scribe))
        self.assertEqual(self.made(ECHO), ECHO)

    def test_small_scribes(self):
        counts = {"made": 0, "two": 0, "never": 0}
        scribes = list(some_scribes(1000, 267)) + list(some_scribes(3000, 269, ("", "", "a")))
        for scribe in scribes:
            if two_ways(scribe) is not None:
                self.two(scribe)
                counts["two"] += 1
                continue
            made = making_by_the_words(scribe)
            if made is None:
                refused_with(self, NeverPlain, made_plain, scribe)
                counts["never"] += 1
            else:
                told = self.made(scribe)
                self.assertEqual(told, made)
                self.assertIsNone(two_ways(told))
                counts["made"] += not is_plain(trimmed_of(scribe))
                self.writes_the_same(trimmed_of(scribe), told, texts_up_to("ab", 5))
        self.assertGreater(counts["made"], 100, counts)
        self.assertGreater(counts["two"], 1000, counts)
        self.assertGreater(counts["never"], 0, counts)

    def test_larger_scribes_with_the_rooms_of_one_doubled(self):
        source = random.Random(271)
        for scribe in some_plain_scribes(150, 273):
            doubled = with_rooms_doubled(scribe, source)
            # Each step goes to either of the two rooms, and now it goes to both.
            both = [(start, sign, word, (goal + scribe[1]) % doubled[1]) for start, sign, word, goal in doubled[3]]
            for steps in (doubled[3] + both, both + doubled[3]):
                many = doubled[:3] + (list(dict.fromkeys(steps)),) + doubled[4:]
                told = self.made(many)
                self.assertEqual(told, making_by_the_words(many))
                self.assertEqual(plainest_of(told), plainest_of(scribe))

    def test_with_rooms_of_no_use_beside(self):
        source = random.Random(275)
        for scribe in some_plain_scribes(100, 277):
            many = side_by_side(scribe, with_rooms_of_no_use(scribe, source))
            self.assertEqual(plainest_of(self.made(many)), plainest_of(scribe))

    def test_a_choice_that_is_settled_late(self):
        # The words of two lanes wait for the sign that tells which one it was, four signs behind the choice.
        steps = [(0, "a", "p", 1), (1, "a", "q", 2), (2, "a", "r", 3), (0, "a", "u", 4), (4, "a", "v", 5),
                 (5, "a", "w", 6), (3, "b", "", 7), (6, "c", "", 7)]
        told = self.made(("abc", 8, [(0, "")], steps, [(7, "s")]))
        self.assertEqual(
            told,
            ("abc", 5, [(0, "")],
             [(0, "a", "", 1), (1, "a", "", 2), (2, "a", "", 3), (3, "b", "pqr", 4), (3, "c", "uvw", 4)], [(4, "s")]))

    def test_too_many_rooms(self):
        never = two_rounds(["x"], ["xx"], {}, {})
        for rooms in (9, 10, 64, 200):
            with self.subTest(rooms=rooms):
                for scribe in (("a", rooms, [], [], []),
                               row_scribe(rooms, "x"),
                               ("a", rooms, [(0, "")], [], [(0, "")]),
                               ("a", rooms, [(0, ""), (0, "x")], [], [(0, "")]),
                               ("a", rooms, [(8, ""), (8, "x")], [(8, "a", "", 8)], [(8, "")]),
                               ("ab", rooms, never[2], never[3] + [(0, "b", "", 2)], [(1, ""), (2, "")]),
                               ("ab", rooms, never[2], never[3] + [(0, "b", "", 2)], [(1, ""), (2, ""), (2, "x")])):
                    refused_with(self, TooMany, made_plain, scribe)
        for rooms in range(1, 9):
            self.assertEqual(self.made(("a", rooms, [], [], [])), ("a", 0, [], [], []))
            self.assertEqual(self.made(row_scribe(rooms, "x")), row_scribe(rooms, "x"))
            self.two(("a", rooms, [(rooms - 1, ""), (rooms - 1, "x")], [], [(rooms - 1, "")]))
        # No other list is counted.
        refused_with(self, TooMany, made_plain, ("a", 9, [], [], []))
        self.assertEqual(self.made(("ab", 8, never[2], never[3], [])), ("ab", 0, [], [], []))

    def test_two_ways(self):
        for scribe in (("a", 1, [(0, "x"), (0, "y")], [], [(0, "")]),
                       ("ab", 1, [(0, "")], [(0, "b", "x", 0), (0, "b", "", 0)], [(0, "")]),
                       ("a", 1, [(0, "")], [], [(0, "x"), (0, "xx")]),
                       two_rounds(["a"] * 3, ["aa"] + ["a"] * 4, {2: "aaa"}, {4: ""}),
                       two_rounds(["a"], ["aa"], {0: "aaaaaaaaaa"}, {0: ""})):
            self.two(scribe)
            self.assertEqual(refused_with(self, TwoWays, made_plain, scribe).ways, two_ways(scribe))

    def test_two_ways_go_first(self):
        # Like no plain one, too: two rounds, and an end by b or by c that tells which; and two ends of one room.
        steps = [(0, "a", "x", 0), (1, "a", "xx", 1), (0, "b", "", 2), (1, "c", "", 2)]
        never = ("abc", 3, [(0, ""), (1, "")], steps, [(2, "")])
        refused_with(self, NeverPlain, made_plain, never)
        self.two(never[:4] + ([(2, ""), (2, "y")],))
        self.two(never[:3] + (steps + [(1, "b", "", 2)], never[4]))
        # More than 200 rooms, too.
        many = waiting_lanes(14, 14, 1)
        refused_with(self, TooMany, made_plain, many)
        self.two(many[:4] + ([(6, ""), (6, "x")],))
        self.two(many[:3] + (many[3] + [(5, "y", "", 6)], many[4]))

    def test_like_no_plain_one_goes_ahead_of_too_many(self):
        many = waiting_lanes(14, 14, 1)
        for room, other in ((0, 3), (1, 4), (2, 5)):
            sign = "a" if room == 2 else "y"
            steps = many[3] + [(room, sign, "x", room), (other, sign, "", other)]
            for signs in (many[0], many[0] + "s", many[0][::-1]):
                refused_with(self, NeverPlain, made_plain, (signs,) + many[1:3] + (steps,) + many[4:])

    def test_more_than_two_hundred_rooms(self):
        # One set for no sign, 11, 11 times 17, and one for the ends: 200.
        scribe = waiting_lanes(11, 17, 1)
        told = self.made(scribe)
        self.assertEqual(told[1], 200)
        self.assertEqual(told, making_by_the_words(scribe))
        self.assertEqual(self.writes_the_same(scribe, told, ["aay", "abz", "kqy", "kqz", "lay", "ay"]), 4)
        # With two sets for the ends there is one more.
        refused_with(self, TooMany, made_plain, waiting_lanes(11, 17, 2))
        self.assertEqual(self.made(waiting_lanes(11, 16, 2))[1], 190)
        for first in range(1, 14):
            self.assertEqual(self.made(waiting_lanes(first, first, 1))[1], 2 + first + first * first)
        for first in range(14, 25):
            refused_with(self, TooMany, made_plain, waiting_lanes(first, first, 1))
        self.assertEqual(self.made(waiting_lanes(24, 7, 1))[1], 194)
        self.assertEqual(self.made(waiting_lanes(8, 23, 2))[1], 195)
        refused_with(self, TooMany, made_plain, waiting_lanes(24, 8, 1))

    def test_more_steps_than_are_handed_in_at_first(self):
        # Told scribes may have thousands of steps; each two rooms have one for each of 25 signs here.
        signs = "zyxwvutsrqponmlkjihgfedcb"
        marks = [(room, "x") for room in range(8)]
        steps = [(start, sign, sign * 3, goal) for start in range(8) for goal in range(8) for sign in signs]
        self.assertEqual(
            self.made((signs, 8, marks, steps, marks)),
            (signs, 1, [(0, "x")], [(0, sign, sign * 3, 0) for sign in signs], [(0, "x")]))
        self.two((signs, 8, marks, steps + [(3, "b", "b", 4)], marks))

    def test_longer_words_that_were_told(self):
        word = "ab" * 20000
        told = self.made(two_rounds([word], ["ba" * 20000], {0: "a"}, {0: ""}, ("", "a")))
        self.assertEqual(told, ("a", 1, [(0, "")], [(0, "a", word, 0)], [(0, "a")]))

    def test_the_lists_told_are_the_asker_s_own(self):
        for scribe in (ECHO, NO_ROOMS, ("ab",) + LAST_SIGN, ("a", 2, [(0, "")], [(0, "a", "x", 1)], [])):
            told_as_own(self, made_plain, scribe)

    def test_the_ways_told_are_the_asker_s_own(self):
        def ways_of(scribe):
            try:
                return made_plain(scribe)
            except TwoWays as error:
                return error.ways

        told_as_own(self, ways_of, ("ab", 1, [(0, "")], [(0, "b", "x", 0), (0, "b", "y", 0)], [(0, "")]))
        told_as_own(self, ways_of, two_rounds(["a"] * 3, ["aa"] + ["a"] * 4, {2: "aaa"}, {4: ""}))

    def test_a_scribe_changed_later_is_asked_anew(self):
        scribe = ("a", 1, [(0, "")], [(0, "a", "x", 0)], [(0, "")])
        self.assertEqual(self.made(scribe), scribe)
        scribe[4].append((0, "y"))
        self.two(scribe)
        scribe[4].clear()
        self.assertEqual(self.made(scribe), ("a", 0, [], [], []))


if __name__ == "__main__":
    unittest.main()
