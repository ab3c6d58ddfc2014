"""Point 7 and earlyscribe/errors.py: the refusals and how they stand to one another."""

import unittest

from earlyscribe import errors

UNDER = ("NoWay", "NoRoom", "NotPlain", "OtherSigns", "TooMany", "TwoWays", "NeverPlain", "NoText")


def made(name):
    """An object of the class of that name."""
    if name == "TwoWays":
        return errors.TwoWays(((0, [], 0), (0, [], 1)))
    if name == "NeverPlain":
        return errors.NeverPlain((0, [], [1]), (1, [], [2]))
    return getattr(errors, name)("some words")


class ErrorClasses(unittest.TestCase):

    def test_scribe_error_stands_straight_under_value_error(self):
        self.assertEqual(errors.ScribeError.__bases__, (ValueError,))

    def test_each_refusal_stands_straight_under_scribe_error(self):
        for name in UNDER:
            with self.subTest(name):
                self.assertEqual(getattr(errors, name).__bases__, (errors.ScribeError,))
                self.assertEqual(getattr(errors, name).__name__, name)

    def test_every_pair(self):
        names = ("ScribeError",) + UNDER
        for upper in names:
            for lower in names:
                with self.subTest(upper=upper, lower=lower):
                    stands = issubclass(getattr(errors, lower), getattr(errors, upper))
                    self.assertIs(stands, upper in ("ScribeError", lower))

    def test_each_is_taken_by_its_own_name_and_by_those_above_alone(self):
        for name in UNDER:
            for other in UNDER:
                with self.subTest(name=name, other=other):
                    self.assertIs(isinstance(made(name), getattr(errors, other)), name == other)
            for above in (getattr(errors, name), errors.ScribeError, ValueError):
                with self.assertRaises(above):
                    raise made(name)

    def test_two_ways_has_the_field_ways(self):
        ways = ((0, [1, 2], 0), (1, [3, 4], 0))
        self.assertEqual(errors.TwoWays(ways).ways, ((0, [1, 2], 0), (1, [3, 4], 0)))

    def test_never_plain_has_the_fields_ones_and_others(self):
        error = errors.NeverPlain((0, [1], [2]), (1, [], [3, 4]))
        self.assertEqual(error.ones, (0, [1], [2]))
        self.assertEqual(error.others, (1, [], [3, 4]))

    def test_fields_are_each_object_s_own(self):
        one = errors.TwoWays(((0, [], 0), (0, [], 1)))
        other = errors.TwoWays(((2, [], 0), (2, [], 1)))
        self.assertEqual(one.ways, ((0, [], 0), (0, [], 1)))
        self.assertEqual(other.ways, ((2, [], 0), (2, [], 1)))
        self.assertNotIn("ways", vars(errors.TwoWays))
        self.assertNotIn("ones", vars(errors.NeverPlain))
        self.assertNotIn("others", vars(errors.NeverPlain))


if __name__ == "__main__":
    unittest.main()
