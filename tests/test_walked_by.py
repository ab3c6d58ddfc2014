"""Points 5 and 10: ways, what they read and write, and what is no way."""

import itertools
import unittest

from samples import ECHO, NO_ROOMS, all_ways, left_as_it_was, some_scribes

from earlyscribe.errors import NoWay
from earlyscribe.scribes import walked_by

FAR = 10 ** 59

SCRIBE = (
    "ab", 3,
    [(0, "p"), (1, "q"), (0, "")],
    [(0, "a", "x", 1), (1, "b", "", 1), (1, "a", "yy", 0), (2, "b", "z", 2)],
    [(0, "r"), (1, ""), (1, "s")],
)


class WalkedBy(unittest.TestCase):

    def walks(self, way, told):
        self.assertEqual(left_as_it_was(self, walked_by, SCRIBE, way), told)

    def refused(self, way, scribe=SCRIBE):
        with self.assertRaises(NoWay) as caught:
            left_as_it_was(self, walked_by, scribe, way)
        self.assertIs(type(caught.exception), NoWay)

    def test_ways_without_a_step(self):
        self.walks((0, [], 0), ("", "pr"))
        self.walks((1, [], 1), ("", "q"))
        self.walks((1, [], 2), ("", "qs"))
        self.walks((2, [], 0), ("", "r"))

    def test_ways_with_steps(self):
        self.walks((0, [0], 1), ("a", "px"))
        self.walks((0, [0, 1, 1, 2], 0), ("abba", "pxyyr"))
        self.walks((2, [0, 2, 0, 1], 2), ("aaab", "xyyxs"))
        self.walks((1, [1, 1], 1), ("bb", "q"))

    def test_a_tuple_of_two_words_is_told(self):
        told = walked_by(SCRIBE, (0, [0], 1))
        self.assertIs(type(told), tuple)
        self.assertEqual([type(part) for part in told], [str, str])

    def test_a_long_way(self):
        self.walks((0, [0, 2] * 1000, 0), ("aa" * 1000, "p" + "xyy" * 1000 + "r"))

    def test_places_below_nought(self):
        for place in (-1, -2, -3, -4, -FAR):
            self.refused((place, [], 0))
            self.refused((0, [place], 1))
            self.refused((0, [0, place], 0))
            self.refused((0, [], place))
        # Counted from the end of the lists, these would be ways.
        self.refused((-3, [], 0))
        self.refused((0, [-4], 1))
        self.refused((0, [0, -2], 0))
        self.refused((0, [], -3))

    def test_places_beyond_the_lists(self):
        for place in (3, 4, FAR):
            self.refused((place, [], 0))
            self.refused((0, [], place))
        for place in (4, 5, FAR):
            self.refused((0, [place], 0))
            self.refused((0, [0, place], 0))

    def test_a_first_step_out_of_another_room(self):
        self.refused((0, [1], 1))
        self.refused((1, [0], 1))
        self.refused((0, [3], 0))

    def test_a_step_that_does_not_go_on_from_the_one_ahead(self):
        self.refused((0, [0, 0], 1))
        self.refused((0, [0, 2, 1], 1))
        self.refused((0, [0, 3], 1))

    def test_an_end_of_another_room(self):
        self.refused((0, [], 1))
        self.refused((1, [], 0))
        self.refused((0, [0], 0))
        self.refused((0, [0, 2], 1))

    def test_scribes_without_begins_steps_or_ends(self):
        self.refused((0, [], 0), NO_ROOMS)
        self.refused((0, [], 0), ("a", 1, [], [(0, "a", "", 0)], [(0, "")]))
        self.refused((0, [0], 0), ("a", 1, [(0, "")], [], [(0, "")]))
        self.refused((0, [], 0), ("a", 1, [(0, "")], [(0, "a", "", 0)], []))

    def test_of_small_tuples_just_the_ways_are_walked(self):
        for scribe in list(some_scribes(40, 10)) + [SCRIBE, ECHO]:
            places = range(-1, len(scribe[3]) + 1)
            for count in range(3):
                ways = all_ways(scribe, count)
                for begin, row, end in itertools.product(range(-1, 4), itertools.product(places, repeat=count),
                                                         range(-1, 4)):
                    way = (begin, list(row), end)
                    if way in ways:
                        parts = [scribe[2][begin][1]] + [scribe[3][place][2] for place in row] + [scribe[4][end][1]]
                        text = "".join(scribe[3][place][1] for place in row)
                        self.assertEqual(walked_by(scribe, way), (text, "".join(parts)))
                    else:
                        self.refused(way, scribe)


if __name__ == "__main__":
    unittest.main()
