"""Point 12: the rooms that some way comes through."""

import unittest

from samples import ECHO, MIXED, NO_ROOMS, all_ways, left_as_it_was, rooms_on_way, row_scribe, some_scribes, told_as_own

from earlyscribe.trims import useful_rooms


class UsefulRooms(unittest.TestCase):

    def told(self, scribe, rooms):
        told = left_as_it_was(self, useful_rooms, scribe)
        self.assertIs(type(told), list)
        self.assertEqual(told, rooms)

    def test_all_rooms_of_use(self):
        self.told(ECHO, [0, 1])

    def test_rooms_of_several_kinds(self):
        self.told(MIXED, [1, 2, 5])

    def test_no_end_can_be_come_to(self):
        self.told(("a", 3, [(0, "")], [(0, "a", "", 1), (1, "a", "", 2)], [(0, "")]), [0])
        self.told(("a", 2, [(0, ""), (1, "")], [(0, "a", "", 1)], [(0, "")]), [0])

    def test_no_begin_leads_there(self):
        self.told(("a", 3, [(2, "")], [(0, "a", "", 1), (1, "a", "", 2)], [(2, ""), (1, "")]), [2])

    def test_neither(self):
        self.told(("a", 3, [(1, "")], [(0, "a", "", 2), (2, "a", "", 0)], [(1, "")]), [1])

    def test_a_begin_and_an_end_that_no_step_joins(self):
        self.told(("a", 2, [(0, "")], [(1, "a", "", 0)], [(1, "")]), [])
        self.told(("a", 3, [(0, "")], [(0, "a", "", 1), (2, "a", "", 1)], [(2, "")]), [])

    def test_a_room_that_is_a_begin_s_and_an_end_s(self):
        self.told(("a", 1, [(0, "")], [], [(0, "")]), [0])
        self.told(("a", 3, [(2, ""), (0, "")], [], [(0, ""), (1, "")]), [0])

    def test_rounds(self):
        round_of_three = [(0, "a", "", 1), (1, "a", "", 2), (2, "a", "", 0)]
        self.told(("a", 3, [(1, "")], round_of_three, [(0, "")]), [0, 1, 2])
        self.told(("a", 3, [(1, "")], round_of_three, []), [])
        self.told(("a", 3, [], round_of_three, [(0, "")]), [])
        # A round beside the way, come to but not left, and one that is left but not come to.
        self.told(("ab", 4, [(3, "")], round_of_three + [(3, "b", "", 0)], [(3, "")]), [3])
        self.told(("ab", 4, [(3, "")], round_of_three + [(0, "b", "", 3)], [(3, "")]), [3])
        self.told(("ab", 4, [(3, "")], round_of_three + [(0, "b", "", 3), (3, "a", "", 1)], [(3, "")]), [0, 1, 2, 3])

    def test_a_step_from_a_room_to_itself(self):
        self.told(("a", 2, [(0, "")], [(0, "a", "", 0), (1, "a", "", 1)], [(0, ""), (1, "")]), [0])
        self.told(("a", 2, [(0, "")], [(0, "a", "", 0)], [(1, "")]), [])

    def test_scribes_with_choices(self):
        steps = [(3, "a", "", 0), (3, "a", "x", 1), (3, "a", "", 1), (0, "a", "", 0), (1, "a", "", 2), (1, "a", "y", 2)]
        self.told(("a", 5, [(3, ""), (3, "z"), (4, "")], steps, [(2, ""), (2, "w")]), [1, 2, 3])

    def test_no_rooms_no_begins_no_ends(self):
        self.told(NO_ROOMS, [])
        self.told(("a", 1, [], [], []), [])
        self.told(("a", 2, [], [(0, "a", "", 1)], [(1, "")]), [])
        self.told(("a", 2, [(0, "")], [(0, "a", "", 1)], []), [])

    def test_two_hundred_rooms_in_a_row(self):
        self.told(row_scribe(200, "x"), list(range(200)))
        signs, rooms, begins, steps, ends = row_scribe(200, "")
        self.told((signs, rooms, [(70, "")], steps[::-1], [(120, "")]), list(range(70, 121)))
        self.told((signs, rooms, [(120, "")], steps, [(70, "")]), [])
        self.told((signs, rooms, begins, steps[:100] + steps[101:], ends), [])
        turned = [(goal, sign, word, start) for start, sign, word, goal in steps]
        self.told((signs, rooms, [(199, "")], turned, [(0, "")]), list(range(200)))

    def test_it_is_what_the_ways_come_through(self):
        for scribe in some_scribes(400, 21):
            rooms = set()
            for count in range(5):
                for way in all_ways(scribe, count):
                    rooms |= rooms_on_way(scribe, way)
            self.told(scribe, sorted(rooms))

    def test_the_list_told_is_the_asker_s_own(self):
        for scribe in (MIXED, ECHO, NO_ROOMS):
            told_as_own(self, useful_rooms, scribe)

    def test_a_scribe_changed_later_is_asked_anew(self):
        scribe = ("a", 2, [(0, "")], [(0, "a", "", 1)], [(0, "")])
        self.told(scribe, [0])
        scribe[4].append((1, ""))
        self.told(scribe, [0, 1])


if __name__ == "__main__":
    unittest.main()
