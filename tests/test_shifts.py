"""What a keeper may do on a disc: make, shift, drop, note; and spot."""

import unittest

from allonetree.discs import Disc
from allonetree.errors import BadAct, BadLine
from tests.test_acts import disc_with, standing
from tests.values import any_values, nested, raised


def not_numbers():
    return [value for value in any_values() if isinstance(value, bool) or not isinstance(value, int)]


class Make(unittest.TestCase):
    def test_a_node_in_the_room_that_no_program_sees(self):
        disc = disc_with(("file", "a", ""))
        self.assertEqual(
            [disc.make("folder", ""), disc.make("file", "x y"), disc.make("link", "z"), disc.make("file", "")],
            [2, 3, 4, 5],
        )
        self.assertEqual(
            [disc.spot(node) for node in (2, 3, 4, 5)],
            [(None, "folder", "", 0), (None, "file", "x y", 0), (None, "link", "z", 0), (None, "file", "", 0)],
        )
        self.assertEqual((disc.rows(), len(disc.nodes()), disc.next, disc.spot(0)[3]), ((("a", "file", ""),), 2, 6, 1))

    def test_texts_of_400_signs(self):
        disc = Disc()
        self.assertEqual([disc.make("file", "~" * 400), disc.make("link", " " * 400)], [1, 2])
        self.assertEqual(disc.spot(1)[2], "~" * 400)

    def bad(self, kind, text):
        disc = disc_with(("folder", "a"))
        before = standing(disc)
        value = raised(BadAct, disc.make, kind, text)
        self.assertIs(type(value), tuple)
        self.assertEqual(len(value), 2)
        self.assertIs(value[0], kind)
        self.assertIs(value[1], text)
        self.assertEqual(standing(disc), before)

    def test_kinds_and_texts_that_are_none(self):
        for kind in any_values() + ["Folder", "files", "LINK", "gone"]:
            if kind != "file":
                self.bad(kind, "")
        for text in any_values() + ["x" * 401, "a\n", "\t", "\u00e4"]:
            if not isinstance(text, str) or text in ("a\nb", "\u00e4", "\ud800", "a\n", "\t", "x" * 401):
                self.bad("file", text)
                self.bad("link", text)
                self.bad("folder", text)

    def test_a_folder_has_no_text(self):
        self.bad("folder", "x")
        self.bad("folder", " ")


class Shift(unittest.TestCase):
    """On a disc with the folders 1 a, 2 a/b, 4 d, the file 3 a/b/c, and the link 5 e.

    In its ROOM lie the folder 6, in it the folder 8 In, and the file 7.
    """

    def setUp(self):
        self.disc = disc_with(
            ("folder", "a"), ("folder", "a/b"), ("file", "a/b/c", "x"), ("folder", "d"), ("link", "e", "y")
        )
        disc = self.disc
        self.assertEqual([disc.make("folder", ""), disc.make("file", "z"), disc.make("folder", "")], [6, 7, 8])
        self.done(8, None, (6, "In"))

    def moment(self, node):
        return self.disc.spot(node)[3]

    def done(self, node, place, goal):
        moments = {one: self.moment(one) for one in range(self.disc.next) if self.disc.spot(one) is not None}
        self.assertIs(self.disc.shift(node, place, goal), True, (node, place, goal))
        self.assertEqual(self.disc.spot(node)[0], goal)
        others = {end[0] for end in (place, goal) if end is not None and place != goal}
        for one in moments:
            self.assertEqual(self.moment(one), moments[one] + (1 if one in others else 0), (node, one))

    def not_done(self, node, place, goal):
        before, twin = standing(self.disc), self.disc.copy()
        self.assertIs(self.disc.shift(node, place, goal), False, (node, place, goal))
        self.assertEqual(standing(self.disc), before)
        self.assertTrue(self.disc == twin)

    def test_out_of_the_folder_and_back(self):
        self.done(1, (0, "a"), None)
        self.assertEqual([row[0] for row in self.disc.rows()], ["d", "e"])
        self.assertEqual(self.disc.spot(3), ((2, "c"), "file", "x", 0))
        self.done(1, None, (4, "A2"))
        self.assertEqual([row[0] for row in self.disc.rows()], ["d", "d/A2", "d/A2/b", "d/A2/b/c", "e"])

    def test_from_name_to_name(self):
        self.done(3, (2, "c"), (0, "c"))
        self.done(3, (0, "c"), (0, "k"))
        self.done(5, (0, "e"), (1, "E"))
        self.done(2, (1, "b"), (4, "b"))
        self.assertEqual([row[0] for row in self.disc.rows()], ["a", "a/E", "d", "d/b", "k"])

    def test_within_the_room(self):
        self.done(7, None, (6, "f"))
        self.done(7, (6, "f"), (8, "F"))
        self.assertEqual(self.disc.spot(7), ((8, "F"), "file", "z", 0))
        self.assertEqual(
            self.disc.rows(),
            disc_with(
                *[("folder", "a"), ("folder", "a/b"), ("file", "a/b/c", "x"), ("folder", "d"), ("link", "e", "y")]
            ).rows(),
        )
        self.done(8, (6, "In"), None)
        self.done(6, None, (8, "in"))
        self.done(8, None, (1, "room"))
        self.assertEqual(
            [row[0] for row in self.disc.rows()], ["a", "a/b", "a/b/c", "a/room", "a/room/F", "a/room/in", "d", "e"]
        )

    def test_from_a_folder_into_one_of_the_room(self):
        self.done(2, (1, "b"), (8, "b"))
        self.assertEqual([row[0] for row in self.disc.rows()], ["a", "d", "e"])
        self.assertEqual([self.disc.spot(3)[0], self.disc.spot(2)[0]], [(2, "c"), (8, "b")])

    def test_from_the_room_to_the_room_nothing_becomes_other(self):
        twin = self.disc.copy()
        self.done(7, None, None)
        self.done(6, None, None)
        self.assertTrue(self.disc == twin)

    def test_nodes_that_are_none(self):
        for node in not_numbers():
            self.not_done(node, None, None)
            self.not_done(node, (0, "a"), None)
            self.not_done(node, None, (0, "new"))
        for node in (0, 9, -1, 999999999):
            self.not_done(node, None, None)
            self.not_done(node, (0, "a"), (0, "new"))
            self.not_done(node, None, (4, "new"))

    def test_true_is_not_1(self):
        self.not_done(True, (0, "a"), None)
        self.not_done(2, (True, "b"), None)
        self.not_done(1, (False, "a"), None)
        self.not_done(7, None, (True, "new"))
        self.not_done(7, None, (False, "new"))

    def test_nodes_that_vanished(self):
        self.disc.do(("gone", "a"))
        for node in (1, 2, 3):
            self.not_done(node, None, None)
        self.not_done(1, (0, "a"), None)
        self.not_done(3, (2, "c"), None)
        self.not_done(7, None, (1, "new"))
        self.not_done(7, None, (2, "new"))

    def test_places_at_which_it_does_not_stand(self):
        for place in any_values() + [
            (0, "A"),
            (1, "a"),
            (4, "a"),
            (0, "b"),
            [0, "a"],
            (0, "a", 0),
            ("0", "a"),
            ((0, "a"),),
            (None, "a"),
            nested(60),
        ]:
            self.not_done(1, place, None)
            self.not_done(1, place, (4, "new"))
        for place in any_values() + [(0, "f"), (6, "In")]:
            if place is not None:
                self.not_done(7, place, (4, "new"))
        self.not_done(8, None, (4, "new"))
        self.not_done(8, (6, "in"), (4, "new"))

    def test_goals_that_are_none(self):
        bad = [value for value in any_values() if value is not None and value != (1, "a")]
        names = ["", ".", "..", "a/b", "a b", "a\n", "\u00e4", "a~", None, 1, ("a",), ["a"]]
        for goal in (
            bad
            + [(4, name) for name in names]
            + [[4, "new"], (4, "new", 0), ("4", "new"), (None, "new"), ("", "new"), (4,)]
        ):
            self.not_done(7, None, goal)
            self.not_done(1, (0, "a"), goal)

    def test_goals_in_what_is_no_folder_on_the_disc(self):
        for folder in (3, 5, 9, -1, 999999999):
            self.not_done(7, None, (folder, "new"))
            self.not_done(1, (0, "a"), (folder, "new"))
        self.not_done(6, None, (7, "new"))

    def test_goals_in_itself_or_within_it(self):
        self.not_done(1, (0, "a"), (1, "new"))
        self.not_done(1, (0, "a"), (2, "new"))
        self.not_done(6, None, (6, "new"))
        self.not_done(6, None, (8, "new"))
        self.not_done(8, (6, "In"), (8, "new"))

    def test_names_that_are_taken(self):
        for goal in ((0, "a"), (0, "A"), (0, "d"), (0, "E"), (1, "B"), (2, "c"), (6, "in")):
            self.not_done(7, None, goal)
        self.not_done(5, (0, "e"), (0, "D"))
        # Nor the node's own, spelled so or otherwise.
        self.not_done(5, (0, "e"), (0, "e"))
        self.not_done(5, (0, "e"), (0, "E"))
        self.not_done(8, (6, "In"), (6, "IN"))

    def test_a_file_is_never_shifted_over(self):
        self.not_done(7, None, (2, "c"))
        self.not_done(3, (2, "c"), (0, "e"))

    def test_a_name_is_free_again_behind_it(self):
        self.done(1, (0, "a"), None)
        self.done(7, None, (0, "A"))
        self.not_done(1, None, (0, "a"))
        self.assertIsNone(self.disc.do(("gone", "a")))
        self.done(1, None, (0, "a"))

    def test_programs_see_what_was_shifted(self):
        self.done(6, None, (0, "room"))
        self.assertIsNone(self.disc.do(("file", "ROOM/in/x", "new")))
        self.assertEqual(self.disc.spot(9), ((8, "x"), "file", "new", 0))
        self.done(6, (0, "room"), None)
        self.assertEqual(self.disc.spot(9), ((8, "x"), "file", "new", 0))
        self.assertEqual(self.moment(8), 1)


class Drop(unittest.TestCase):
    def setUp(self):
        self.disc = disc_with(("folder", "a"), ("file", "a/b", "x"))
        for kind, text in (("folder", ""), ("file", "y"), ("link", "z"), ("folder", "")):
            self.disc.make(kind, text)
        self.disc.shift(6, None, (3, "in"))

    def not_done(self, node):
        before = standing(self.disc)
        self.assertIs(self.disc.drop(node), False, node)
        self.assertEqual(standing(self.disc), before)

    def test_what_lies_in_the_room_vanishes(self):
        for node in (4, 5):
            self.assertIs(self.disc.drop(node), True)
            self.assertIsNone(self.disc.spot(node))
            self.not_done(node)
        self.assertEqual(self.disc.next, 7)

    def test_folders_with_names_do_not(self):
        self.not_done(3)
        self.not_done(6)
        self.assertIs(self.disc.shift(6, (3, "in"), None), True)
        self.assertEqual(
            [self.disc.drop(3), self.disc.drop(6), self.disc.spot(3), self.disc.spot(6)], [True, True, None, None]
        )

    def test_what_stands_at_a_name_and_the_root_do_not(self):
        for node in (0, 1, 2, 6):
            self.not_done(node)
        self.disc.do(("gone", "a/b"))
        self.not_done(1)
        self.not_done(2)

    def test_any_value(self):
        for value in not_numbers() + [-1, 7, 999999999]:
            self.not_done(value)

    def test_true_is_not_1(self):
        disc = Disc()
        disc.make("file", "")
        self.assertIs(disc.drop(True), False)
        self.assertIs(disc.drop(1), True)


class Note(unittest.TestCase):
    def test_lines_stand_as_they_came(self):
        disc = Disc()
        lines = ("one", "", " ", "one", "a\tb", "\r", "\u00e4", "x" * 5000, "\x0b\x0c\x85\u2028")
        for line in lines:
            self.assertIsNone(disc.note(line))
        self.assertEqual(disc.book, lines)
        self.assertEqual((disc.rows(), disc.next, disc.spot(0)), ((), 1, (None, "folder", "", 0)))

    def test_what_is_no_line(self):
        disc = Disc()
        disc.note("one")
        for value in any_values() + ["\n", "a\n", "\na", "a\n\nb"]:
            if not isinstance(value, str) or "\n" in value:
                self.assertIs(raised(BadLine, disc.note, value), value)
                self.assertEqual(disc.book, ("one",))

    def test_a_book_that_was_told_does_not_grow(self):
        disc = Disc()
        book = disc.book
        disc.note("one")
        self.assertEqual((book, disc.book), ((), ("one",)))


class Spot(unittest.TestCase):
    def test_any_value(self):
        disc = disc_with(("folder", "a"))
        for value in not_numbers() + [-1, 2, 999999999]:
            self.assertIsNone(disc.spot(value), value)
        self.assertEqual((disc.spot(0), disc.spot(1)), ((None, "folder", "", 1), ((0, "a"), "folder", "", 0)))
