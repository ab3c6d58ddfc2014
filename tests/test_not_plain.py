"""Points 14 and 20: what asks for plain scribes refuses those with choices."""

import unittest

from samples import ECHO, NO_ROOMS, PLAIN_MIXED, left_as_it_was, row_scribe, some_scribes

from earlyscribe.aparts import apart_text
from earlyscribe.early import earliest_of, heads_of
from earlyscribe.errors import NotPlain
from earlyscribe.forms import plainest_of
from earlyscribe.joins import joined_behind
from earlyscribe.scribes import is_plain

ASKED = (heads_of, earliest_of, plainest_of)

ASKED_OF_TWO = (apart_text, joined_behind)

STEPS = [(0, "a", "x", 1), (0, "b", "y", 1)]
ENDS = [(1, "z")]

# Each has one choice, and is plain without it; room 2 is of no use.
CHOICES = {
    "a second begin": ("ab", 3, [(0, ""), (1, "")], STEPS, ENDS),
    "a second begin of the same room": ("ab", 3, [(0, ""), (0, "w")], STEPS, ENDS),
    "a second begin, of no use": ("ab", 3, [(0, ""), (2, "")], STEPS, ENDS),
    "two begins, both of no use": ("ab", 3, [(2, ""), (2, "w")], [], []),
    "a second step": ("ab", 3, [(0, "")], STEPS + [(0, "b", "y", 0)], ENDS),
    "a second step with another word": ("ab", 3, [(0, "")], STEPS + [(0, "b", "", 1)], ENDS),
    "a second step to a room of no use": ("ab", 3, [(0, "")], STEPS + [(0, "b", "y", 2)], ENDS),
    "a second step at a room of no use": ("ab", 3, [(0, "")], STEPS + [(2, "b", "", 2), (2, "b", "", 1)], ENDS),
    "a second step and no begin": ("ab", 3, [], STEPS + [(0, "a", "", 1)], ENDS),
    "a second end": ("ab", 3, [(0, "")], STEPS, ENDS + [(1, "")]),
    "a second end of a room of no use": ("ab", 3, [(0, "")], STEPS, ENDS + [(2, ""), (2, "w")]),
    "a second end and no begin": ("ab", 3, [], [], ENDS + [(1, "")]),
}


class Choices(unittest.TestCase):

    def refused(self, ask, *scribes):
        with self.assertRaises(NotPlain) as caught:
            left_as_it_was(self, ask, *scribes)
        self.assertIs(type(caught.exception), NotPlain)

    def test_each_choice_alone(self):
        for name, scribe in CHOICES.items():
            for ask in ASKED:
                with self.subTest(name, ask=ask.__name__):
                    self.refused(ask, scribe)

    def test_small_scribes_are_refused_just_where_they_have_choices(self):
        for scribe in some_scribes(300, 27):
            for ask in ASKED:
                if is_plain(scribe):
                    left_as_it_was(self, ask, scribe)
                else:
                    self.refused(ask, scribe)

    def test_plain_ones_are_not_refused(self):
        for scribe in (ECHO, NO_ROOMS, PLAIN_MIXED):
            for ask in ASKED:
                left_as_it_was(self, ask, scribe)

    def test_the_first_one_the_second_one_or_both(self):
        plain = ("ab", 3, [(0, "")], STEPS, ENDS)
        for name, scribe in CHOICES.items():
            for ask in ASKED_OF_TWO:
                with self.subTest(name, ask=ask.__name__):
                    left_as_it_was(self, ask, plain, plain)
                    self.refused(ask, scribe, plain)
                    self.refused(ask, plain, scribe)
                    self.refused(ask, scribe, scribe)

    def test_choices_go_ahead_of_other_signs(self):
        for name, scribe in CHOICES.items():
            for other in (("ba", 1, [(0, "")], [], [(0, "")]), ("abc", 0, [], [], [])):
                for ask in ASKED_OF_TWO:
                    with self.subTest(name, ask=ask.__name__):
                        self.refused(ask, scribe, other)
                        self.refused(ask, other, scribe)

    def test_choices_go_ahead_of_too_many_rooms(self):
        many = row_scribe(200, "x")
        for name, scribe in CHOICES.items():
            with self.subTest(name):
                self.refused(joined_behind, scribe, many)
                self.refused(joined_behind, many, scribe)
        choice = many[:4] + ([(199, ""), (199, "x")],)
        self.refused(joined_behind, choice, many)
        self.refused(joined_behind, many, choice)
        self.refused(joined_behind, choice, choice)

    def test_small_pairs_are_refused_just_where_one_has_choices(self):
        scribes = list(some_scribes(300, 29))
        for one, other in zip(scribes, scribes[150:] + scribes[:150]):
            for ask in ASKED_OF_TWO:
                if is_plain(one) and is_plain(other):
                    left_as_it_was(self, ask, one, other)
                else:
                    self.refused(ask, one, other)


if __name__ == "__main__":
    unittest.main()
