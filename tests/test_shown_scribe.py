"""Point 32: a scribe as a text of rows."""

import unittest

from samples import ECHO, MIXED, NO_ROOMS, left_as_it_was, row_scribe

from earlyscribe.texts import shown_scribe


class ShownScribe(unittest.TestCase):

    def test_row_by_row(self):
        self.assertEqual(
            left_as_it_was(self, shown_scribe, ECHO),
            "ab 2\n"
            "begin 0 o\n"
            "step 0 a x 0\n"
            "step 0 b y 1\n"
            "step 1 a x 0\n"
            "end 0 z\n"
            "end 1 -")

    def test_rows_stand_in_the_order_of_the_lists(self):
        scribe = ("zay", 12, [(11, ""), (3, "ab"), (3, "aa")],
                  [(10, "z", "", 11), (2, "a", "end", 10), (10, "y", "step", 0)],
                  [(9, "begin"), (0, ""), (9, "a")])
        self.assertEqual(
            left_as_it_was(self, shown_scribe, scribe),
            "zay 12\n"
            "begin 11 -\nbegin 3 ab\nbegin 3 aa\n"
            "step 10 z - 11\nstep 2 a end 10\nstep 10 y step 0\n"
            "end 9 begin\nend 0 -\nend 9 a")

    def test_no_rooms_no_begins_no_steps_no_ends(self):
        self.assertEqual(shown_scribe(NO_ROOMS), "ab 0")
        self.assertEqual(shown_scribe(("z", 1, [], [], [])), "z 1")
        self.assertEqual(shown_scribe(("z", 1, [], [(0, "z", "", 0)], [])), "z 1\nstep 0 z - 0")
        self.assertEqual(shown_scribe(("z", 1, [(0, "")], [], [])), "z 1\nbegin 0 -")
        self.assertEqual(shown_scribe(("z", 1, [], [], [(0, "")])), "z 1\nend 0 -")
        self.assertEqual(shown_scribe(("z", 1, [(0, "x")], [], [(0, "y")])), "z 1\nbegin 0 x\nend 0 y")

    def test_two_hundred_rooms(self):
        rows = shown_scribe(row_scribe(200, "x")).split("\n")
        self.assertEqual(rows[:3], ["a 200", "begin 0 -", "step 0 a x 1"])
        self.assertEqual(rows[-2:], ["step 198 a x 199", "end 199 -"])
        self.assertEqual(len(rows), 202)
        self.assertEqual(shown_scribe(("a", 200, [], [], [])), "a 200")

    def test_long_words(self):
        word = "abc" * 10000
        self.assertEqual(shown_scribe(("a", 1, [(0, word)], [], [])), "a 1\nbegin 0 " + word)

    def test_choices_and_rooms_of_no_use(self):
        self.assertEqual(shown_scribe(MIXED).count("\n"), sum(map(len, MIXED[2:])))
        self.assertEqual(shown_scribe(("a", 1, [(0, "x"), (0, "")], [], [])), "a 1\nbegin 0 x\nbegin 0 -")


if __name__ == "__main__":
    unittest.main()
