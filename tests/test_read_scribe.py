"""Point 32: the scribe that a text of rows tells of."""

import random
import unittest

from samples import (ECHO, MIXED, NO_ROOMS, NOTHING_WRITTEN, left_as_it_was, refused_with, row_scribe,
                     some_plain_scribes, some_scribes, told_as_own)

from earlyscribe.errors import NoText
from earlyscribe.scribes import is_scribe
from earlyscribe.texts import read_scribe, shown_scribe

ECHO_ROWS = ["ab 2", "begin 0 o", "step 0 a x 0", "step 0 b y 1", "step 1 a x 0", "end 0 z", "end 1 -"]


class ReadScribe(unittest.TestCase):

    def none(self, *rows):
        """See that rows with a line end between aren't taken."""
        with self.subTest(rows=rows):
            refused_with(self, NoText, read_scribe, "\n".join(rows))

    def row(self, place, row):
        """See that the rows of ECHO aren't taken with another one at a place."""
        self.none(*ECHO_ROWS[:place], row, *ECHO_ROWS[place + 1:])

    def test_the_rows_of_a_scribe(self):
        told = left_as_it_was(self, read_scribe, "\n".join(ECHO_ROWS))
        self.assertEqual(told, ECHO)
        self.assertIs(type(told), tuple)
        self.assertEqual([type(part) for part in told], [str, int, list, list, list])
        for part in told[2] + told[3] + told[4]:
            self.assertIs(type(part), tuple)
        self.assertTrue(is_scribe(told))

    def test_no_rooms_no_begins_no_steps_no_ends(self):
        self.assertEqual(read_scribe("ab 0"), NO_ROOMS)
        self.assertEqual(read_scribe("z 1"), ("z", 1, [], [], []))
        self.assertEqual(read_scribe("z 1\nend 0 -"), ("z", 1, [], [], [(0, "")]))
        self.assertEqual(read_scribe("z 1\nstep 0 z - 0"), ("z", 1, [], [(0, "z", "", 0)], []))
        self.assertEqual(read_scribe("z 1\nbegin 0 -\nend 0 x"), ("z", 1, [(0, "")], [], [(0, "x")]))

    def test_what_was_shown_is_read(self):
        scribes = (list(some_scribes(300, 231)) + list(some_plain_scribes(100, 233)) + list(NOTHING_WRITTEN)
                   + [ECHO, NO_ROOMS, MIXED, row_scribe(200, "ab" * 100), row_scribe(100, ""), ("a", 200, [], [], [])])
        for scribe in scribes:
            self.assertEqual(read_scribe(shown_scribe(scribe)), scribe)

    def test_words_like_the_rows_own(self):
        scribe = ("ab", 1, [(0, "begin"), (0, "end")], [(0, "a", "step", 0), (0, "b", "end", 0)], [(0, "begin")])
        self.assertEqual(read_scribe(shown_scribe(scribe)), scribe)

    def test_words_of_any_length(self):
        for count in (200, 201, 5000, 100000):
            scribe = ("a", 1, [(0, "x" * count)], [(0, "a", "y" * count, 0)], [(0, "z" * count)])
            self.assertEqual(read_scribe(shown_scribe(scribe)), scribe)

    def test_the_empty_text_and_empty_rows(self):
        self.none("")
        self.none("", "")
        self.none(*ECHO_ROWS, "")
        self.none("", *ECHO_ROWS)
        self.none("ab 0", "")
        self.none("", "ab 0")
        for place in range(1, len(ECHO_ROWS)):
            self.none(*ECHO_ROWS[:place], "", *ECHO_ROWS[place:])

    def test_blanks(self):
        for place, row in enumerate(ECHO_ROWS):
            self.row(place, " " + row)
            self.row(place, row + " ")
            for blank in [at for at, sign in enumerate(row) if sign == " "]:
                self.row(place, row[:blank] + " " + row[blank:])
                self.row(place, row[:blank] + row[blank + 1:])
        self.none(" ")
        self.none("ab 0", " ")

    def test_other_first_words(self):
        for row in ("Begin 0 o", "begins 0 o", "BEGIN 0 o", "start 0 o", "b 0 o", "0 o", "- 0 o", "beginend 0 o"):
            self.row(1, row)
        for row in ("Step 0 a x 0", "steps 0 a x 0", "0 a x 0", "stp 0 a x 0", "begin 0 a x 0", "end 0 a x 0"):
            self.row(2, row)
        for row in ("End 0 z", "ends 0 z", "0 z", "e 0 z", "step 0 z", "begin 0 z"):
            self.row(5, row)

    def test_rows_out_of_order(self):
        self.none(*ECHO_ROWS[1:])
        self.none(*ECHO_ROWS[1:], ECHO_ROWS[0])
        self.none(*reversed(ECHO_ROWS))
        self.none("ab 2", "step 0 a x 0", "begin 0 o")
        self.none("ab 2", "end 0 z", "step 0 a x 0")
        self.none("ab 2", "end 0 z", "begin 0 o")
        self.none("ab 2", "begin 0 o", "end 0 z", "begin 1 o")
        self.none("ab 2", "begin 0 o", "ab 2")
        # Within its own kind a row may stand where it will.
        self.assertEqual(read_scribe("ab 2\nend 1 -\nend 0 z"), ("ab", 2, [], [], [(1, ""), (0, "z")]))

    def test_rows_that_stand_twice(self):
        for place, row in enumerate(ECHO_ROWS):
            self.none(*ECHO_ROWS[:place], row, *ECHO_ROWS[place:])
        self.none(*ECHO_ROWS[:5], ECHO_ROWS[2], *ECHO_ROWS[5:])
        self.none(*ECHO_ROWS, "end 0 z")
        self.none("ab 2", "ab 2")

    def test_numbers(self):
        for figures in ("00", "000", "+0", "-0", "0.", "0x0", "0_0", "", "-", "o", "a", "0e", "00000000000", " 0",
                        "--0", "-1", "+1", "01", "1.0", "1e0", "1_0", "_1", "1_", "I", "one", "#0", "0,", "1/1", "(1)"):
            self.row(0, "ab " + figures)
            self.row(1, "begin " + figures + " o")
            self.row(2, "step " + figures + " a x 0")
            self.row(2, "step 0 a x " + figures)
            self.row(5, "end " + figures + " z")
        self.row(0, "ab 02")
        self.row(0, "ab 002")
        self.none("a 0200")
        self.none("a 00")

    def test_rooms_above_two_hundred(self):
        self.assertEqual(read_scribe("a 200\nbegin 199 -"), ("a", 200, [(199, "")], [], []))
        for rooms in (201, 250, 999, 1000, 2000, 10 ** 60, "9" * 1990, "9" * 6000):
            self.none("a " + str(rooms))
            self.none("a 200", "begin " + str(rooms) + " -")

    def test_rooms_beyond_the_number_told(self):
        for rooms in (0, 1, 2, 10, 199, 200):
            for room in (rooms, rooms + 1, rooms + 100):
                self.none(f"a {rooms}", f"begin {room} x")
                self.none(f"a {rooms}", f"end {room} x")
                self.none(f"a {rooms}", f"step 0 a x {room}")
                self.none(f"a {rooms}", f"step {room} a x 0")
        self.assertEqual(read_scribe("a 11\nend 10 x"), ("a", 11, [], [], [(10, "x")]))

    def test_signs(self):
        for signs in ("aa", "aba", "abcdefghijklmnopqrstuvwxyza", "", "-", "A", "aB", "a1", "1", "a-", "a,b", "~"):
            self.none(signs + " 1")
            self.none(signs + " 0")
        self.none("0")
        self.none(" 0")
        self.none("ab")
        self.none("0 ab")
        self.none("a b 0")
        self.none("ab 0 0")
        signs = "zyxwvutsrqponmlkjihgfedcba"
        self.assertEqual(read_scribe(signs + " 3"), (signs, 3, [], [], []))

    def test_a_step_s_sign(self):
        for sign in ("c", "ab", "ba", "aa", "-", "A", "1", "", "~"):
            self.row(2, f"step 0 {sign} x 0")

    def test_words(self):
        for word in ("A", "xY", "x1", "1", "x-", "-x", "--", "x.", "", "x~", "!", "\"\"", "''", "x,y", "x\ty", "x\r"):
            self.row(1, "begin 0 " + word)
            self.row(2, f"step 0 a {word} 0")
            self.row(5, "end 0 " + word)

    def test_a_part_too_few_or_too_many(self):
        for row in ("begin", "begin 0", "begin o", "begin 0 o o", "begin 0 o 0", "begin 0 a o 0"):
            self.row(1, row)
        for row in ("step", "step 0", "step 0 a", "step 0 a x", "step 0 a 0", "step 0 a x 0 0", "step 0 a x 0 x",
                    "step 0 0 a x"):
            self.row(2, row)
        for row in ("end", "end 0", "end z", "end 0 z z", "end 0 z 0"):
            self.row(5, row)
        for row in ("ab", "2", "ab 2 2", "ab ab 2", "ab 2 ab"):
            self.row(0, row)

    def test_line_ends_elsewhere(self):
        whole = "\n".join(ECHO_ROWS)
        for place, sign in enumerate(whole):
            if sign == " ":
                self.none(whole[:place] + "\n" + whole[place + 1:])
            if sign == "\n":
                self.none(whole[:place] + " " + whole[place + 1:])
                self.none(whole[:place] + "\r\n" + whole[place + 1:])
                self.none(whole[:place] + "\n\n" + whole[place + 1:])
        self.none(whole + "\r")

    def test_texts_with_one_sign_changed(self):
        source = random.Random(235)
        signs = [chr(number) for number in range(32, 127) if chr(number) != "%"] + ["\n"]
        whole = "\n".join(ECHO_ROWS)
        refused = 0
        for turn in range(4000):
            place = source.randrange(len(whole))
            cut = source.choice((0, 0, 1, 1, 2))
            text = whole[:place] + source.choice(signs + [""]) + whole[place + cut:]
            try:
                told = read_scribe(text)
            except NoText:
                refused += 1
            else:
                self.assertTrue(is_scribe(told), text)
                self.assertEqual(shown_scribe(told), text)
        self.assertGreater(refused, 2000)

    def test_texts_of_any_signs(self):
        source = random.Random(237)
        signs = [chr(number) for number in range(32, 127) if chr(number) != "%"] + ["\n"] * 5
        for turn in range(1000):
            text = "".join(source.choice(signs) for sign in range(source.randrange(40)))
            refused_with(self, NoText, read_scribe, text)
        refused_with(self, NoText, read_scribe, "\n" * 2000)
        refused_with(self, NoText, read_scribe, " " * 2000)
        refused_with(self, NoText, read_scribe, "ab 2\n" + "begin 0 x\n" * 190)

    def test_the_lists_told_are_the_asker_s_own(self):
        told_as_own(self, read_scribe, "\n".join(ECHO_ROWS))
        told_as_own(self, read_scribe, "ab 0")


if __name__ == "__main__":
    unittest.main()
