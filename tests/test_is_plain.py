"""Points 6 and 9: plain scribes."""

import itertools
import unittest

from samples import ECHO, NO_ROOMS, all_ways, left_as_it_was, some_scribes

from earlyscribe.scribes import is_plain, walked_by


class IsPlain(unittest.TestCase):

    def holds(self, scribe):
        self.assertIs(left_as_it_was(self, is_plain, scribe), True, scribe)

    def fails(self, scribe):
        self.assertIs(left_as_it_was(self, is_plain, scribe), False, scribe)

    def test_plain_ones(self):
        for scribe in (ECHO, NO_ROOMS, ("a", 1, [], [], []), ("a", 1, [(0, "")], [], [])):
            self.holds(scribe)

    def test_two_hundred_rooms(self):
        steps = [(room, sign, "x", (room * 7) % 200) for room in range(200) for sign in "ab"]
        ends = [(room, "") for room in range(200)]
        self.holds(("ab", 200, [(3, "")], steps, ends))
        self.fails(("ab", 200, [(3, "")], steps + [(199, "b", "", 0)], ends))
        self.fails(("ab", 200, [(3, "")], steps, ends + [(199, "a")]))

    def test_a_second_begin(self):
        self.fails(("ab", 2, [(0, "a"), (1, "b")], [], []))
        self.fails(("ab", 2, [(0, "a"), (0, "b")], [], []))
        self.fails(("ab", 2, [(0, "a"), (1, "a")], [], []))

    def test_a_second_step_out_of_a_room_with_the_same_sign(self):
        self.fails(("ab", 2, [(0, "")], [(0, "a", "x", 0), (0, "a", "y", 1)], []))
        self.fails(("ab", 2, [(0, "")], [(0, "a", "x", 0), (0, "a", "y", 0)], []))
        self.fails(("ab", 2, [(0, "")], [(0, "a", "x", 0), (0, "a", "x", 1)], []))
        self.fails(("ab", 2, [(0, "")], [(1, "b", "x", 0), (0, "b", "", 1), (1, "a", "", 1), (1, "b", "", 0)], []))

    def test_a_second_step_with_another_sign_or_out_of_another_room(self):
        self.holds(("ab", 2, [(0, "")], [(0, "a", "x", 1), (0, "b", "x", 1)], []))
        self.holds(("ab", 2, [(0, "")], [(0, "a", "x", 1), (1, "a", "x", 1)], []))

    def test_a_second_end_of_a_room(self):
        self.fails(("ab", 2, [(0, "")], [], [(0, "a"), (0, "b")]))
        self.fails(("ab", 2, [(0, "")], [], [(1, ""), (0, "b"), (1, "a")]))
        self.holds(("ab", 2, [(0, "")], [], [(0, "a"), (1, "a")]))

    def test_rooms_that_are_of_no_use_count(self):
        self.fails(("ab", 3, [(0, "")], [(2, "a", "", 0), (2, "a", "", 1)], [(0, "")]))
        self.fails(("ab", 3, [], [], [(2, "a"), (2, "b")]))

    def test_a_plain_scribe_has_at_most_one_way_for_a_text(self):
        plain = [scribe for scribe in some_scribes(600, 6) if is_plain(scribe)]
        self.assertGreater(len(plain), 20)
        for scribe, count in itertools.product(plain, range(4)):
            texts = [walked_by(scribe, way)[0] for way in all_ways(scribe, count)]
            self.assertEqual(len(texts), len(set(texts)))


if __name__ == "__main__":
    unittest.main()
