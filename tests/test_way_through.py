"""Points 5, 7 and 12: a way that comes through a room."""

import copy
import unittest

from samples import ECHO, MIXED, NO_ROOMS, left_as_it_was, rooms_on_way, row_scribe, some_scribes, told_as_own

from earlyscribe.errors import NoRoom
from earlyscribe.scribes import walked_by
from earlyscribe.trims import useful_rooms, way_through

FAR = 10 ** 59


class WayThrough(unittest.TestCase):

    def comes_through(self, scribe, room):
        way = left_as_it_was(self, way_through, scribe, room)
        self.assertEqual([type(part) for part in way], [int, list, int])
        self.assertIs(type(way), tuple)
        # It refuses what is no way.
        walked_by(scribe, way)
        self.assertIn(room, rooms_on_way(scribe, way))
        kept = copy.deepcopy(way)
        way[1].clear()
        self.assertEqual(way_through(scribe, room), kept)

    def comes_through_just(self, scribe, rooms):
        for room in range(scribe[1]):
            with self.subTest(scribe=scribe, room=room):
                if room in rooms:
                    self.comes_through(scribe, room)
                else:
                    self.assertIsNone(left_as_it_was(self, way_through, scribe, room))

    def refused(self, scribe, room):
        with self.assertRaises(NoRoom) as caught:
            left_as_it_was(self, way_through, scribe, room)
        self.assertIs(type(caught.exception), NoRoom)

    def test_rooms_of_use_and_others(self):
        self.comes_through_just(ECHO, [0, 1])
        self.comes_through_just(MIXED, [1, 2, 5])

    def test_a_way_without_a_step(self):
        self.comes_through_just(("a", 2, [(1, "x")], [], [(0, "y"), (1, "z")]), [1])
        self.assertEqual(way_through(("a", 2, [(1, "x")], [], [(0, "y"), (1, "z")]), 1), (0, [], 1))

    def test_the_one_way_there_is(self):
        scribe = ("ab", 4, [(3, ""), (2, "")], [(0, "a", "", 1), (2, "b", "", 0), (3, "a", "", 3)], [(3, "z"), (1, "")])
        for room in (2, 0, 1):
            self.assertEqual(way_through(scribe, room), (1, [1, 0], 1))

    def test_a_room_that_is_come_to_by_a_round_alone(self):
        steps = [(0, "a", "", 1), (1, "a", "", 2), (2, "a", "", 0)]
        self.comes_through_just(("a", 3, [(0, "")], steps, [(0, "")]), [0, 1, 2])
        self.comes_through_just(("a", 3, [(1, "")], steps, [(0, "")]), [0, 1, 2])
        self.comes_through_just(("a", 1, [(0, "")], [(0, "a", "", 0)], [(0, "")]), [0])

    def test_scribes_with_choices(self):
        steps = [(3, "a", "", 0), (3, "a", "x", 1), (3, "a", "", 1), (0, "a", "", 0), (1, "a", "", 2), (1, "a", "y", 2)]
        self.comes_through_just(("a", 5, [(4, ""), (3, ""), (3, "z")], steps, [(2, ""), (2, "w")]), [1, 2, 3])

    def test_none_without_begins_or_ends(self):
        self.comes_through_just(("a", 2, [], [(0, "a", "", 1)], [(1, "")]), [])
        self.comes_through_just(("a", 2, [(0, "")], [(0, "a", "", 1)], []), [])

    def test_two_hundred_rooms_in_a_row(self):
        scribe = row_scribe(200, "x")
        for room in range(200):
            self.assertEqual(way_through(scribe, room), (0, list(range(199)), 0))

    def test_small_scribes(self):
        for scribe in some_scribes(400, 23):
            self.comes_through_just(scribe, useful_rooms(scribe))

    def test_refused_where_there_is_no_such_room(self):
        for scribe in (ECHO, MIXED, row_scribe(200, ""), ("a", 1, [], [], [])):
            for room in (scribe[1], scribe[1] + 1, -1, -scribe[1], FAR, FAR * 10 - 1, -FAR, 1 - FAR * 10):
                self.refused(scribe, room)

    def test_every_number_is_refused_of_a_scribe_without_rooms(self):
        for room in (0, 1, -1, 199, 200, FAR, -FAR):
            self.refused(NO_ROOMS, room)

    def test_the_row_told_is_the_asker_s_own(self):
        for scribe in (MIXED, row_scribe(5, "")):
            for room in range(scribe[1]):
                told_as_own(self, way_through, scribe, room)


if __name__ == "__main__":
    unittest.main()
