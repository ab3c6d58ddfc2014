"""Point 23: scribes that no plain one writes the same as, and what shows it."""

import random
import unittest

from samples import left_as_it_was, refused_with, side_by_side, some_plain_scribes, told_as_own, two_rounds

from earlyscribe.choices import two_ways
from earlyscribe.errors import NeverPlain, TooMany
from earlyscribe.makings import made_plain
from earlyscribe.scribes import is_plain
from earlyscribe.trims import trimmed_of, useful_rooms
from earlyscribe.words import gap_of

MOST_PLACES = 200


def lanes(one_words, other_words, begins=("", "")):
    """Two rounds with a word for each step, and an end by the sign y or z that tells which lane it was."""
    rounds = two_rounds(one_words, other_words, {}, {}, begins)
    end = rounds[1]
    last = [(room, "y" if room < len(one_words) else "z", "", end) for room in range(end)]
    return ("ayz", end + 1, rounds[2], rounds[3] + last, [(end, "")])


def rests_grow(scribe):
    """Whether what is left of two words that read the same has no bound: by trying all pairs of a room and a rest.

    A rest that is longer than all steps that lead to unlike pairs of rooms could write has come by a round.
    """
    signs, rooms, begins, steps, ends = trimmed_of(scribe)
    longest = max([len(word) for room, word in begins] + [len(step[2]) for step in steps] + [0])
    front = [((one[0], other[0]), gap_of(one[1], other[1])) for one in begins for other in begins]
    seen = set(front)
    while front:
        (one, other), rest = front.pop()
        if max(map(len, rest)) > longest * (rooms * rooms + 1):
            return True
        for first in steps:
            for second in steps:
                if first[0] == one and second[0] == other and first[1] == second[1]:
                    behind = ((first[3], second[3]), gap_of(rest[0] + first[2], rest[1] + second[2]))
                    if behind not in seen:
                        seen.add(behind)
                        front.append(behind)
    return False


class NeverMadePlain(unittest.TestCase):

    def walked(self, scribe, field):
        """See that a field names a begin, a row and a round, and tell what they read and what is written by then."""
        self.assertIs(type(field), tuple)
        self.assertEqual([type(part) for part in field], [int, list, list])
        begin, row, turn = field
        self.assertLess(begin, len(scribe[2]))
        self.assertGreaterEqual(begin, 0)
        self.assertLessEqual(len(row), MOST_PLACES)
        self.assertLessEqual(len(turn), MOST_PLACES)
        self.assertGreaterEqual(len(turn), 1)
        room, word = scribe[2][begin]
        told = []
        for places in (row, turn):
            read = ""
            for place in places:
                self.assertGreaterEqual(place, 0)
                start, sign, more, goal = scribe[3][place]
                self.assertEqual(start, room)
                room = goal
                read += sign
                word += more
            told += [room, read, word]
        self.assertEqual(told[0], told[3], "the round leads back")
        self.assertIn(room, useful_rooms(scribe))
        return told[1], told[2], told[4], told[5]

    def never(self, scribe):
        """See that it is refused with NeverPlain, with fields that show why; tell the rows' text and the rounds'."""
        error = refused_with(self, NeverPlain, made_plain, scribe)
        row, word, turn, word_behind = self.walked(scribe, error.ones)
        other_row, other_word, other_turn, other_word_behind = self.walked(scribe, error.others)
        self.assertEqual(row, other_row)
        self.assertEqual(turn, other_turn)
        self.assertNotEqual(gap_of(word, other_word), gap_of(word_behind, other_word_behind))
        again = refused_with(self, NeverPlain, made_plain, scribe)
        self.assertEqual((again.ones, again.others), (error.ones, error.others))
        return row, turn

    def made(self, scribe):
        told = left_as_it_was(self, made_plain, scribe)
        self.assertTrue(is_plain(told))
        return told

    def test_rounds_unlike_in_length(self):
        for one, other in (("x", ""), ("", "x"), ("x", "xx"), ("xxx", "xx"), ("xy", "x"), ("xyz", "xy"), ("p", "qr")):
            row, turn = self.never(lanes([one], [other]))
            self.assertEqual(row + turn, "a" * len(row + turn))
            self.never(lanes([one], [other], ("x", "")))
            self.never(lanes([one], [other], ("xx", "y")))

    def test_rounds_alike_in_length_with_other_letters(self):
        self.never(lanes(["x"], ["y"]))
        self.never(lanes(["xy"], ["yx"]))
        self.never(lanes(["xxy"], ["xyx"]))
        self.never(lanes(["xy"], ["xy"], ("x", "")))
        self.never(lanes(["xx"], ["xx"], ("y", "")))
        self.never(lanes(["xxxxx"], ["xxxxx"], ("xxy", "xx")))
        self.never(lanes(["xyx"], ["xxy"], ("", "x")))

    def test_words_apart_ahead_of_rounds_that_write_the_same(self):
        self.never(lanes(["x"], ["x"], ("p", "q")))
        self.never(lanes(["x"], ["x"], ("px", "q")))
        self.never(lanes(["x" * 200], ["x" * 200], ("p", "q")))

    def test_rounds_that_leave_what_they_found(self):
        for scribe in (lanes([""], [""], ("p", "q")), lanes([""], [""], ("", "xyz")), lanes(["x"], ["x"]),
                       lanes(["xyz"], ["xyz"]), lanes(["x"], ["x"], ("xxx", "")), lanes(["x"], ["x"], ("yx", "y")),
                       lanes(["xy"], ["yx"], ("", "x")), lanes(["yx"], ["xy"], ("x", "")),
                       lanes(["xyxy"], ["yxyx"], ("", "xyx")), lanes(["xy"], ["xy"], ("xyxy", "")),
                       lanes(["xyz"], ["zxy"], ("", "xy")), lanes(["xyz"], ["yzx"], ("p", "px"))):
            self.made(scribe)
            self.assertFalse(rests_grow(scribe))

    def test_rounds_of_several_signs(self):
        for one, other in ((["x", "", ""], ["", "", "x"]), (["x", "y", "z"], ["x", "y", "z"])):
            self.made(lanes(one, other))
        for one, other in ((["x", "", ""], ["", "", ""]), (["x", "y", "z"], ["x", "z", "y"]), (["x", "y"], ["", "x"]),
                           (["", "", "x"], ["y", "", ""]), (["xx", "", ""], ["", "x", ""])):
            self.never(lanes(one, other))
        # The round reads two signs in turn.
        for words, is_made in ((("x", "y", "xy", ""), True), (("x", "y", "x", "yy"), False),
                               (("x", "y", "y", "x"), False), (("x", "yx", "xy", "x"), True)):
            steps = [(0, "a", words[0], 1), (1, "b", words[1], 0), (2, "a", words[2], 3), (3, "b", words[3], 2),
                     (0, "c", "", 4), (2, "d", "", 4)]
            scribe = ("abcd", 5, [(0, ""), (2, "")], steps, [(4, "")])
            if is_made:
                self.made(scribe)
            else:
                self.assertIn(self.never(scribe)[1], ("ab", "ba", "abab"))

    def test_rounds_of_unlike_numbers_of_rooms(self):
        self.never(lanes(["x", "x"], ["x", "x", "xx"]))
        self.never(lanes(["x", ""], ["x"]))
        self.never(lanes(["x"], ["y", "y"]))
        self.made(lanes(["x", "x"], ["x"]))
        self.made(lanes(["x", ""], ["", "x"]))
        self.made(lanes(["xyxy"], ["xy", "xyxyxy"]))
        for one in range(1, 7):
            for other in range(1, 8 - one):
                self.made(lanes(["x"] * one, ["x"] * other))
                self.made(lanes(["xy"] * one, ["yx"] * other, ("", "x")))
                row, turn = self.never(lanes(["x"] * one, ["x"] * (other - 1) + ["xx"]))
                self.assertEqual(len(turn) % one, 0)
                self.assertEqual(len(turn) % other, 0)
                self.never(lanes(["x"] * one, ["x"] * (other - 1) + ["y"]))
                self.never(lanes(["x"] * one, ["x"] * other, ("", "y")))

    def test_behind_a_row(self):
        # From one begin a choice, a row on each lane, and then the rounds.
        for words, is_made in ((("p", "q", "", ""), True), (("p", "q", "x", "x"), False), (("x", "", "x", "x"), True),
                               (("", "", "x", "xx"), False), (("x", "y", "", "x"), False)):
            steps = [(0, "a", "", 1), (0, "a", words[0], 2), (1, "b", words[1], 3), (2, "b", "", 4),
                     (3, "a", words[2], 3), (4, "a", words[3], 4), (3, "y", "", 5), (4, "z", "", 5)]
            scribe = ("abyz", 6, [(0, "o")], steps, [(5, "")])
            if is_made:
                self.made(scribe)
            else:
                row, turn = self.never(scribe)
                self.assertTrue(row.startswith("ab"))
                self.assertEqual(set(turn), {"a"})

    def test_a_round_ahead_of_the_round(self):
        # The first rounds write nothing, and leave what they found; the second ones don't.
        steps = [(0, "a", "", 0), (1, "a", "", 1), (0, "b", "p", 2), (1, "b", "", 3), (2, "a", "x", 2),
                 (3, "a", "y", 3), (2, "y", "", 4), (3, "z", "", 4)]
        scribe = ("abyz", 5, [(0, ""), (1, "")], steps, [(4, "")])
        self.never(scribe)
        self.made(scribe[:3] + (steps[:4] + steps[6:], scribe[4]))
        self.made(scribe[:3] + ([step for step in steps if step[2] not in ("x", "y")], scribe[4]))

    def test_a_lane_that_leads_to_no_end(self):
        for scribe in (lanes(["x"], [""]), lanes(["x"], ["y"]), lanes(["xx", "x"], ["x"]),
                       lanes(["x"], ["x"], ("p", "q"))):
            self.never(scribe)
            for sign in "yz":
                self.made(scribe[:3] + ([step for step in scribe[3] if step[1] != sign], scribe[4]))
            self.assertEqual(self.made(scribe[:4] + ([],)), (scribe[0], 0, [], [], []))
            for place in (0, 1):
                self.made(scribe[:2] + (scribe[2][place:place + 1],) + scribe[3:])

    def test_rounds_that_do_not_read_alike(self):
        # One lane goes round by a and the other one by b.
        steps = [(0, "a", "x", 0), (1, "b", "", 1), (0, "y", "", 2), (1, "z", "", 2)]
        self.made(("abyz", 3, [(0, ""), (1, "")], steps, [(2, "")]))
        self.never(("abyz", 3, [(0, ""), (1, "")], steps + [(0, "b", "x", 0)], [(2, "")]))

    def test_an_end_that_is_told_by_the_number_of_signs(self):
        # One lane ends behind an even number of signs, the other one behind an odd number.
        self.never(two_rounds(["x", ""], ["", "xx"], {0: ""}, {1: ""}))
        self.never(two_rounds(["x", "x"], ["y", "y"], {0: ""}, {1: ""}))
        self.made(two_rounds(["x", "x"], ["x", "x"], {0: ""}, {1: ""}))
        self.made(two_rounds(["x", "x"], ["x", "x"], {0: "p"}, {1: "q"}))
        self.never(two_rounds(["x", "x"], ["x", "x"], {0: ""}, {1: ""}, ("p", "q")))

    def test_one_ring_with_two_begins(self):
        # The two are never in one room; the one end tells from which begin it was come to.
        for gap in range(1, 8):
            for words, is_made in ((["x"] * 8, True), ([""] * 8, True), (["x"] + [""] * 7, True),
                                   (["x"] * 7 + ["y"], gap == 0)):
                steps = [(room, "a", words[room], (room + 1) % 8) for room in range(8)]
                scribe = ("a", 8, [(0, ""), (gap, "")], steps, [(0, "")])
                if two_ways(scribe) is None:
                    self.assertEqual(rests_grow(scribe), not is_made)
                    if is_made:
                        self.made(scribe)
                    else:
                        self.never(scribe)

    def test_rests_that_part_behind_other_rows(self):
        # By the row a nothing is left, by b an x: what both lanes write behind that is good for the first rest alone.
        steps = [(0, "a", "x", 1), (2, "a", "x", 3), (0, "b", "x", 1), (2, "b", "", 3),
                 (1, "a", "y", 4), (3, "a", "y", 5), (4, "a", "x", 4), (5, "a", "x", 5), (4, "y", "", 6),
                 (5, "z", "", 6)]
        scribe = ("abyz", 7, [(0, ""), (2, "")], steps, [(6, "")])
        for signs in ("abyz", "bayz"):
            for order in (steps, steps[::-1], steps[2:4] + steps[:2] + steps[4:]):
                self.assertTrue(self.never((signs,) + scribe[1:3] + (order,) + scribe[4:])[0].startswith("b"))
        self.made(scribe[:3] + (steps[:2] + steps[4:], scribe[4]))
        self.made(scribe[:3] + ([step[:2] + (step[2].replace("y", "x"),) + step[3:] for step in steps], scribe[4]))

    def test_rests_that_come_behind_others_that_are_the_same(self):
        # By a and by b nothing is left, by c an x: that is good for one step behind it, but not for the one with y.
        steps = [(0, "a", "", 1), (2, "a", "", 3), (0, "b", "", 1), (2, "b", "", 3), (0, "c", "x", 1), (2, "c", "", 3),
                 (1, "a", "", 4), (3, "a", "", 5), (1, "b", "y", 4), (3, "b", "y", 5),
                 (4, "a", "x", 4), (5, "a", "x", 5), (4, "y", "", 6), (5, "z", "", 6)]
        source = random.Random(280)
        for turn in range(100):
            scribe = ("abcyz", 7, [(0, ""), (2, "")], list(steps), [(6, "")])
            self.assertTrue(self.never(scribe)[0].startswith("cb"))
            for left_out in ("c", "y"):
                kept = [step for step in steps if step[1] != left_out and step[2] != left_out]
                self.made(scribe[:3] + (kept, scribe[4]))
            source.shuffle(steps)

    def test_rests_of_one_pair_that_only_the_second_one_shows(self):
        # Each of two rows is good on its own for all but one step behind it.
        source = random.Random(281)
        count = 0
        for turn in range(1200):
            words = source.choice((("a", "a", "", "b"), ("", "ab", "a", "b")))
            steps = []
            for room in (0, 1, 3, 4):
                steps += [(room, sign, source.choice(words), room + 1) for sign in "ab"]
            word = source.choice(("a", "ab"))
            steps += [(2, "c", word, 2), (5, "c", word, 5), (2, "y", "", 6), (5, "z", "", 6)]
            scribe = ("abcyz", 7, [(0, ""), (3, "")], steps, [(6, "")])
            if rests_grow(scribe):
                self.never(scribe)
            else:
                self.made(scribe)
                count += 1
        self.assertGreater(count, 20)

    def test_small_lanes(self):
        counts = [0, 0]
        for words in (("", "a"), ("", "ab", "ba"), ("", "", "ab", "aba"), ("a", "b", "")):
            ones = list(some_plain_scribes(150, 283, words))
            others = list(some_plain_scribes(150, 285, words))
            for one, other in zip(ones, others):
                scribe = side_by_side(one, other)
                rooms = scribe[1]
                steps = scribe[3] + [(room, "y" if room < one[1] else "z", "", rooms) for room in range(rooms)]
                scribe = ("bayz", rooms + 1, scribe[2], steps, [(rooms, "")])
                grow = rests_grow(scribe)
                counts[grow] += 1
                if grow:
                    self.never(scribe)
                else:
                    self.made(scribe)
        self.assertGreater(min(counts), 100)

    def test_lists_of_no_more_than_two_hundred_places(self):
        # Rounds of three and five rooms beside one another, with one letter too much on one of them.
        for place in range(4):
            words = ["x"] * 4
            words[place] = "xx"
            row, turn = self.never(lanes(["x"] * 3, words))
            self.assertEqual(len(turn) % 12, 0)
        words = ["ab" * 100] * 4
        self.never(lanes(["ab" * 100] * 3, words[:-1] + ["ab" * 99 + "a"]))

    def test_many_steps(self):
        # Each lane has three rooms with steps between all of them.
        signs = "abcdefghijklmnopqrstu"
        ones = [(start, sign, sign * 200, goal) for start in range(3) for goal in range(3) for sign in signs]
        last = [(room, "y", "", 6) for room in range(3)] + [(room, "z", "", 6) for room in range(3, 6)]

        def with_other_lane(word_of):
            others = [(start + 3, sign, word_of(sign), goal + 3) for start, sign, word, goal in ones]
            return (signs + "yz", 7, [(0, ""), (3, "")], ones + others + last, [(6, "x")])

        self.assertEqual(self.made(with_other_lane(lambda sign: sign * 200))[1], 3)
        self.never(with_other_lane(lambda sign: sign * 199))
        self.never(with_other_lane(lambda sign: sign * (200 if sign != "u" else 199)))
        self.never(with_other_lane(lambda sign: sign * 199 + ("a" if sign == "k" else sign)))

    def test_too_many_goes_behind(self):
        refused_with(self, TooMany, made_plain, ("ayz", 9) + lanes(["x"], [""])[2:])
        self.never(("ayz", 8) + lanes(["x"], [""])[2:])

    def test_the_lists_told_are_the_asker_s_own(self):
        def fields_of(scribe):
            try:
                return made_plain(scribe)
            except NeverPlain as error:
                return (error.ones, error.others)

        for scribe in (lanes(["x"], [""]), lanes(["x", "x"], ["x", "xx"]), lanes(["x"], ["x"], ("p", "q"))):
            ones, others = told_as_own(self, fields_of, scribe)
            self.assertEqual(len(ones), 3)
            self.assertEqual(len(others), 3)


if __name__ == "__main__":
    unittest.main()
