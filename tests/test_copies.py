"""Copies of discs, and which discs are equal."""

import unittest

from allonetree.discs import Disc
from tests.test_acts import disc_with, standing
from tests.values import any_values

ACTS = (("folder", "a"), ("file", "a/b", "x"), ("link", "c", "y"))


def full():
    disc = disc_with(*ACTS)
    for kind, text in (("folder", ""), ("file", "z")):
        disc.make(kind, text)
    disc.shift(5, None, (4, "in"))
    disc.note("one")
    return disc


CHANGES = (
    ("text", lambda disc: disc.do(("file", "a/b", "other"))),
    ("the same text", lambda disc: disc.do(("file", "a/b", "x"))),
    ("name", lambda disc: disc.do(("folder", "d"))),
    ("spelling", lambda disc: disc.do(("move", "c", "C"))),
    ("place", lambda disc: disc.do(("move", "c", "a/c"))),
    ("gone", lambda disc: disc.do(("gone", "a/b"))),
    ("book", lambda disc: disc.note("two")),
    ("make", lambda disc: disc.make("file", "")),
    ("make and drop", lambda disc: disc.drop(disc.make("file", ""))),
    ("into the room", lambda disc: disc.shift(3, (0, "c"), None)),
    ("out of the room", lambda disc: disc.shift(4, None, (0, "room"))),
    ("within the room", lambda disc: disc.shift(5, (4, "in"), (4, "other"))),
    ("there and back", lambda disc: [disc.shift(5, (4, "in"), None), disc.shift(5, None, (4, "in"))]),
)


class Copies(unittest.TestCase):
    def test_a_copy_is_another_disc_and_equal(self):
        for disc in (Disc(), full()):
            other = disc.copy()
            self.assertIs(type(other), Disc)
            self.assertIsNot(other, disc)
            self.assertTrue(other == disc)
            self.assertEqual(standing(other), standing(disc))

    def test_a_copy_changes_apart_from_its_original(self):
        for word, change in CHANGES:
            disc = full()
            other = disc.copy()
            before = standing(disc)
            change(other)
            self.assertEqual(standing(disc), before, word)
            self.assertFalse(disc == other, word)
            change(disc)
            self.assertEqual(standing(disc), standing(other), word)
            self.assertTrue(disc == other, word)

    def test_an_original_changes_apart_from_its_copy(self):
        for word, change in CHANGES:
            disc = full()
            other = disc.copy()
            before = standing(other)
            change(disc)
            self.assertEqual(standing(other), before, word)
            self.assertTrue(disc != other, word)

    def test_a_copy_of_a_copy(self):
        disc = full()
        other = disc.copy().copy()
        disc.do(("gone", "a"))
        self.assertEqual(standing(other), standing(full()))

    def test_what_a_copy_does_not_free(self):
        other = full().copy()
        self.assertIs(other.shift(3, (0, "c"), (0, "A")), False)
        self.assertEqual((other.make("file", ""), other.next), (6, 7))


class Looking(unittest.TestCase):
    def test_whatever_is_asked_changes_nothing(self):
        disc = full()
        before = standing(disc)
        for _ in range(2):
            self.assertEqual(standing(disc), before)
            self.assertTrue(disc == full())
            self.assertFalse(disc != disc.copy())

    def test_what_lies_in_the_room_leaves_the_folder_as_it_is(self):
        disc = full()
        nodes = disc.nodes()
        node = disc.make("link", "x")
        disc.note("two")
        self.assertIs(disc.shift(node, None, (4, "other")), True)
        self.assertIs(disc.shift(node, (4, "other"), None), True)
        self.assertIs(disc.drop(node), True)
        self.assertEqual(disc.nodes(), nodes)


class Equal(unittest.TestCase):
    def equal(self, one, other, told):
        for left, right in ((one, other), (other, one)):
            self.assertIs(left == right, told)
            self.assertIs(left != right, not told)

    def test_discs_on_which_the_same_was_done(self):
        self.equal(Disc(), Disc(), True)
        self.equal(full(), full(), True)
        disc = full()
        self.equal(disc, disc, True)

    def test_discs_on_which_another_change_was_done(self):
        for word, change in CHANGES:
            with self.subTest(word):
                disc = full()
                change(disc)
                self.equal(disc, full(), False)

    def test_numbers_tell(self):
        self.equal(disc_with(("folder", "a"), ("folder", "b")), disc_with(("folder", "b"), ("folder", "a")), False)

    def test_next_tells(self):
        one, other = disc_with(("folder", "a"), ("gone", "a")), disc_with(("folder", "a"), ("gone", "a"))
        other.drop(other.make("file", ""))
        self.equal(one, other, False)

    def test_moments_tell(self):
        one = disc_with(("file", "a", "x"), ("file", "a", "x"))
        self.equal(one, disc_with(("file", "a", "x")), False)
        self.equal(
            disc_with(("file", "a", ""), ("move", "a", "b"), ("move", "b", "a")), disc_with(("file", "a", "")), False
        )

    def test_kinds_tell(self):
        self.equal(disc_with(("file", "a", "")), disc_with(("link", "a", "")), False)
        self.equal(disc_with(("file", "a", "")), disc_with(("folder", "a")), False)

    def test_the_room_tells(self):
        one, other, third = Disc(), Disc(), Disc()
        one.make("file", "x")
        other.make("file", "y")
        third.make("link", "x")
        self.equal(one, other, False)
        self.equal(one, third, False)

    def test_the_book_tells_by_its_sequence(self):
        one, other = Disc(), Disc()
        for line in ("a", "b"):
            one.note(line)
        for line in ("b", "a"):
            other.note(line)
        self.equal(one, other, False)
        other = Disc()
        for line in ("a", "b"):
            other.note(line)
        self.equal(one, other, True)

    def test_in_whatever_sequence_names_came(self):
        one = disc_with(("file", "a", ""), ("file", "b", ""), ("move", "a", "c"), ("move", "b", "d"))
        other = disc_with(("file", "a", ""), ("file", "b", ""), ("move", "b", "d"), ("move", "a", "c"))
        self.equal(one, other, True)

    def test_any_other_value(self):
        for value in any_values():
            if not isinstance(value, Disc):
                self.equal(Disc(), value, False)
        self.equal(full(), standing(full()), False)

    def test_no_other_operator(self):
        for call in (
            lambda a, b: a < b,
            lambda a, b: a <= b,
            lambda a, b: a + b,
            lambda a, b: a > b,
            lambda a, b: a >= b,
        ):
            self.assertRaises(TypeError, call, Disc(), Disc())
            self.assertRaises(TypeError, call, Disc(), 1)
