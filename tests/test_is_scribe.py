"""Points 3, 4 and 9: what a scribe is, asked of anything."""

import copy
import unittest

from samples import ECHO, NO_ROOMS, left_as_it_was, some_scribes

from earlyscribe.scribes import is_scribe

SCRIBE = ("abc", 3, [(0, ""), (1, "ab")], [(0, "a", "", 1), (1, "c", "zz", 2), (2, "b", "q", 2)], [(2, ""), (2, "b")])

LETTERS = "abcdefghijklmnopqrstuvwxyz"

NUMBERS = (-1, 0, 1, 2, 3, 4, 199, 200, 201, -200, 10 ** 59, -(10 ** 59))

TEXTS = ("", "a", "b", "ab", "aa", "abcabc", "A", "aB", "a b", " ", "a-", "0", "1", "a1", "{", "`", "@", "~", "-")

OTHERS = (
    None, True, False, (), [], (None,), [None], [[]], [()], ([],), ((),), [[[]]], (((),),), [True], (False,),
    (0,), (0, ""), (0, "a"), [0, ""], (0, "a", "", 1), [(0, "")], [(0, "a", "", 1)], ((0, ""),), ["a"], ["a", "b"],
    ("a", "b"), [0], [(0, "a"), (0, "a")], [(0, "a", "", 1), (0, "a", "", 1)], [(0, "a"), [0, "a"]],
    [(True, "a")], [(0, "a", "", True)], (0, "a", "", 1, 1), (0, "a", ""), SCRIBE, list(SCRIBE), [SCRIBE], (SCRIBE,),
)


def plainly_a_scribe(thing):
    """Point 3 read once more, in another way of writing."""
    def number(x, top):
        return type(x) is int and x in range(top)

    def word(x):
        return type(x) is str and all(letter in LETTERS for letter in x)

    def unlike(xs):
        return all(xs[k] not in xs[:k] for k in range(len(xs)))

    if type(thing) is not tuple or len(thing) != 5:
        return False
    signs, rooms, begins, steps, ends = thing
    if not word(signs) or len(signs) == 0 or not unlike(signs) or not number(rooms, 201):
        return False
    if any(type(parts) is not list for parts in (begins, steps, ends)):
        return False
    for part in begins + ends:
        if type(part) is not tuple or len(part) != 2 or not number(part[0], rooms) or not word(part[1]):
            return False
    for part in steps:
        if type(part) is not tuple or len(part) != 4 or not number(part[0], rooms) or not number(part[3], rooms):
            return False
        if part[1] not in list(signs) or not word(part[2]):
            return False
    return unlike(begins) and unlike(steps) and unlike(ends)


def with_parts(**parts):
    """SCRIBE with some of its parts put in another's place."""
    names = ("signs", "rooms", "begins", "steps", "ends")
    return tuple(parts.get(name, part) for name, part in zip(names, SCRIBE))


def all_with_one_changed(thing, put):
    """The thing with any one thing within it, or itself, in turn replaced by another one."""
    yield put
    if isinstance(thing, (tuple, list)):
        for place in range(len(thing)):
            for part in all_with_one_changed(thing[place], put):
                changed = list(thing)
                changed[place] = part
                yield changed if isinstance(thing, list) else tuple(changed)


class IsScribe(unittest.TestCase):

    def holds(self, thing):
        self.assertIs(left_as_it_was(self, is_scribe, thing), True, thing)

    def fails(self, thing):
        self.assertIs(left_as_it_was(self, is_scribe, thing), False, thing)

    def test_scribes(self):
        for scribe in (SCRIBE, ECHO, NO_ROOMS, ("z", 1, [], [], []), (LETTERS[::-1], 5, [(4, LETTERS)], [], [])):
            self.holds(scribe)
        for scribe in some_scribes(100, 9):
            self.holds(scribe)

    def test_from_no_rooms_to_two_hundred(self):
        for rooms in (0, 1, 2, 199, 200):
            self.holds(("ab", rooms, [], [], []))
        self.holds(("ab", 200, [(199, "a")], [(199, "a", "", 199), (0, "b", "", 199)], [(199, "")]))

    def test_other_numbers_of_rooms(self):
        for rooms in (201, -1, -200, 10 ** 59, -(10 ** 59), True, False, None, "1", (1,), [1]):
            self.fails(("ab", rooms, [], [], []))

    def test_without_rooms_there_are_no_begins_steps_or_ends(self):
        self.fails(("ab", 0, [(0, "")], [], []))
        self.fails(("ab", 0, [], [(0, "a", "", 0)], []))
        self.fails(("ab", 0, [], [], [(0, "")]))

    def test_words_of_any_length(self):
        for count in (200, 201, 100000):
            word = "ab" * count
            self.holds(("ab", 1, [(0, word)], [(0, "a", word, 0)], [(0, word)]))
            self.fails(("ab", 1, [(0, word + "-")], [], []))
            self.fails(("ab", 1, [], [(0, "a", "-" + word, 0)], []))

    def test_lists_of_any_length(self):
        steps = [(room, sign, "", other) for room in range(20) for sign in "ab" for other in range(20)]
        self.holds(("ab", 20, [(room, "") for room in range(20)], steps, []))
        self.fails(("ab", 20, [(room, "") for room in range(20)], steps + steps[:1], []))

    def test_signs(self):
        for signs in ("a", "z", "za", "cab", LETTERS):
            self.holds((signs, 1, [], [], []))
        for signs in ("", "aa", "abca", "A", "aB", "a b", " ", "a1", "a-", "`", "{", "a~", 1, None, True, ["a"], ("a",)):
            self.fails((signs, 1, [], [], []))

    def test_rooms_of_begins_and_ends(self):
        for room in (3, -1, -3, 4, 10 ** 59, -(10 ** 59), True, False, None, "0", (0,), [0]):
            self.fails(with_parts(begins=[(room, "")]))
            self.fails(with_parts(ends=[(2, "a"), (room, "")]))

    def test_rooms_of_steps(self):
        for room in (3, -1, -3, 4, 10 ** 59, -(10 ** 59), True, False, None, "0", (0,), [0]):
            self.fails(with_parts(steps=[(room, "a", "", 0)]))
            self.fails(with_parts(steps=[(0, "a", "", room)]))

    def test_signs_of_steps(self):
        for sign in ("a", "b", "c"):
            self.holds(with_parts(steps=[(0, sign, "", 0)]))
        for sign in ("", "ab", "bc", "abc", "d", "A", " ", "aa", None, True, 0, ["a"], ("a",)):
            self.fails(with_parts(steps=[(0, sign, "", 0)]))

    def test_words(self):
        for word in ("", "a", "xyz", LETTERS):
            self.holds(with_parts(begins=[(0, word)]))
        for word in ("A", "aBc", "a b", " ", "-", "a1", "ab~", "`a", "a{", None, True, 0, ["a"], ("a",), [], ()):
            self.fails(with_parts(begins=[(0, word)]))
            self.fails(with_parts(ends=[(0, word)]))
            self.fails(with_parts(steps=[(0, "a", word, 0)]))

    def test_a_part_more_or_fewer(self):
        self.fails(SCRIBE[:4])
        self.fails(SCRIBE[1:])
        self.fails(SCRIBE + ([],))
        for part in ((0,), (), (0, "", 0), (0, "", "")):
            self.fails(with_parts(begins=[part]))
            self.fails(with_parts(ends=[part]))
        for part in ((), (0, "a", ""), (0, "a", "", 0, 0), (0, "a", "", 0, ""), (0, "a", 0)):
            self.fails(with_parts(steps=[part]))

    def test_lists_and_tuples_in_one_another_s_stead(self):
        self.fails(list(SCRIBE))
        self.fails(with_parts(begins=((0, ""),)))
        self.fails(with_parts(steps=((0, "a", "", 0),)))
        self.fails(with_parts(ends=((0, ""),)))
        self.fails(with_parts(begins=()))
        self.fails(with_parts(steps=()))
        self.fails(with_parts(ends=()))
        self.fails(with_parts(begins=[[0, ""]]))
        self.fails(with_parts(steps=[[0, "a", "", 0]]))
        self.fails(with_parts(ends=[[0, ""]]))

    def test_a_tuple_that_stands_twice(self):
        self.fails(with_parts(begins=[(0, "a"), (1, "a"), (0, "a")]))
        self.fails(with_parts(steps=[(0, "a", "b", 1), (0, "a", "b", 2), (0, "a", "b", 1)]))
        self.fails(with_parts(ends=[(2, ""), (1, ""), (2, "")]))

    def test_the_same_tuple_in_two_lists(self):
        self.holds(with_parts(begins=[(0, "a")], ends=[(0, "a")]))

    def test_tuples_that_are_unlike_in_one_part_alone(self):
        self.holds(with_parts(begins=[(0, "a"), (0, "b"), (1, "a")]))
        steps = [(0, "a", "a", 0), (1, "a", "a", 0), (0, "b", "a", 0), (0, "a", "b", 0), (0, "a", "a", 1)]
        self.holds(with_parts(steps=steps))

    def test_other_things(self):
        for thing in NUMBERS + TEXTS:
            self.fails(thing)
        for thing in OTHERS:
            self.assertIs(is_scribe(thing), thing == SCRIBE)

    def test_things_far_within_one_another(self):
        deep = []
        for turn in range(5000):
            deep = [deep]
        self.assertIs(is_scribe(deep), False)
        self.assertIs(is_scribe(("ab", 1, deep, [], [])), False)
        self.assertIs(is_scribe(("ab", 1, [(0, deep)], [], [])), False)
        self.assertIs(is_scribe(("ab", 1, [], [(0, deep, "", 0), (0, deep, "", 0)], [])), False)

    def test_any_one_thing_in_another_s_stead(self):
        seen = {True: 0, False: 0}
        for put in NUMBERS + TEXTS + OTHERS:
            for thing in all_with_one_changed(SCRIBE, put):
                kept = copy.deepcopy(thing)
                answer = is_scribe(thing)
                self.assertIs(answer, plainly_a_scribe(thing), thing)
                self.assertEqual(thing, kept)
                seen[answer] += 1
        self.assertGreater(seen[True], 50)
        self.assertGreater(seen[False], 1000)


if __name__ == "__main__":
    unittest.main()
