"""What programs did, told from what was known and what stands."""

import random
import unittest

from allonetree.discs import Disc
from allonetree.errors import BadChanges, BadHeard, BadKnown, BadLife, BadStanding
from allonetree.hearing import hears
from allonetree.telling import known_behind, told
from tests import plain_forms, plain_keeping
from tests.hands import Hand, program
from tests.values import raised

# LIFE 5 told a folder, two files and a link; LIFE 2 wrote one of the files at once with it.
FOLDER, FILE, OTHER, LINK = (5, 0), (5, 1), (5, 3), (5, 5)
HEARD = (
    ("write", (2, 0), 3, FILE, "two", ()),
    ("born", FOLDER, 1, "folder", None, "f", ""),
    ("born", FILE, 2, "file", FOLDER, "a", ""),
    ("write", (5, 2), 3, FILE, "one", ()),
    ("born", OTHER, 4, "file", None, "o", ""),
    ("write", (5, 4), 5, OTHER, "text", ()),
    ("born", LINK, 6, "link", None, "l", "to"),
)
KNOWN = (
    (1, ("item", FOLDER), (0, "f"), None, (FOLDER,)),
    (2, ("item", FILE), (1, "a"), (5, 2), (FILE,)),
    (3, ("beside", FILE, (2, 0)), (1, "a.clash1"), (2, 0), ()),
    (4, ("item", OTHER), (0, "o"), (5, 4), (OTHER,)),
    (5, ("item", LINK), (0, "l"), None, (LINK,)),
)
STANDING = (
    (1, (0, "f"), "folder", ""),
    (2, (1, "a"), "file", "one"),
    (3, (1, "a.clash1"), "file", "two"),
    (4, (0, "o"), "file", "text"),
    (5, (0, "l"), "link", "to"),
)


def stood(*rows, gone=()):
    """STANDING with these rows instead of, or behind, its own, and without some nodes."""
    found = {row[0]: row for row in STANDING + rows if row[0] not in gone}
    return tuple(sorted(found.values(), key=lambda row: row[0]))


def known(*rows):
    found = {row[0]: row for row in KNOWN + rows}
    return tuple(sorted(found.values(), key=lambda row: row[0]))


class Told(unittest.TestCase):
    life = 5
    number = 6
    stamp = 7

    def tells(self, standing, *steps, known=KNOWN, heard=HEARD):
        """Each step: what stands behind the stamp of its deed (None: no deed), ahead of it the word; and its changes."""
        found = told(heard, self.life, known, standing)
        self.assertEqual(found, plain_keeping.told(heard, self.life, known, standing))
        expected = []
        at = 0
        for deed, changes in steps:
            if deed is not None:
                deed = (deed[0], (self.life, self.number + at), self.stamp + at) + deed[1:]
                at += 1
            expected.append((deed, changes))
        self.assertEqual(found, tuple(expected))
        self.assertEqual(type(found), tuple)

    def test_nothing(self):
        self.tells(STANDING)
        self.tells((), known=())
        self.assertEqual(told((), 1, (), ()), ())

    # Places.

    def test_put(self):
        row = (4, ("item", OTHER), (1, "o"), (5, 4), (OTHER, (5, 6)))
        self.tells(stood((4, (1, "o"), "file", "text")), (("put", OTHER, FOLDER, "o"), ((4, row),)))
        row = (2, ("item", FILE), (0, "a"), (5, 2), (FILE, (5, 6)))
        self.tells(stood((2, (0, "a"), "file", "one")), (("put", FILE, None, "a"), ((2, row),)))
        row = (5, ("item", LINK), (0, "L"), None, (LINK, (5, 6)))
        self.tells(stood((5, (0, "L"), "link", "to")), (("put", LINK, None, "L"), ((5, row),)))
        row = (1, ("item", FOLDER), (0, "g"), None, (FOLDER, (5, 6)))
        self.tells(stood((1, (0, "g"), "folder", "")), (("put", FOLDER, None, "g"), ((1, row),)))

    def test_shown_ascends(self):
        ahead = (5, ("item", LINK), (0, "l"), None, (LINK, (9, 2)))
        behind = (5, ("item", LINK), (0, "L"), None, (LINK, (5, 6), (9, 2)))
        self.tells(stood((5, (0, "L"), "link", "to")), (("put", LINK, None, "L"), ((5, behind),)), known=known(ahead))

    def test_several_puts_by_path(self):
        # f moves into a new folder B; l comes into f, and a is called otherwise.
        rows = ((6, (0, "B"), "folder", ""), (1, (6, "f"), "folder", ""), (5, (1, "l"), "link", "to"), (2, (1, "b"), "file", "one"))
        self.tells(
            stood(*rows),
            (("born", "folder", None, "B", ""), ((6, (6, ("item", (5, 6)), (0, "B"), None, ((5, 6),))),)),
            (("put", FOLDER, (5, 6), "f"), ((1, (1, ("item", FOLDER), (6, "f"), None, (FOLDER, (5, 7)))),)),
            (("put", FILE, FOLDER, "b"), ((2, (2, ("item", FILE), (1, "b"), (5, 2), (FILE, (5, 8)))),)),
            (("put", LINK, FOLDER, "l"), ((5, (5, ("item", LINK), (1, "l"), None, (LINK, (5, 9)))),)),
        )

    def test_a_node_that_was_known_in_the_room(self):
        ahead = (5, ("item", LINK), None, None, (LINK,))
        behind = (5, ("item", LINK), (0, "l"), None, (LINK, (5, 6)))
        self.tells(STANDING, (("put", LINK, None, "l"), ((5, behind),)), known=known(ahead))

    def test_one_beside_that_gets_a_place_of_its_own(self):
        for place, parent in (((0, "a.clash1"), None), ((1, "both"), FOLDER), ((1, "A.clash1"), FOLDER)):
            born = (3, ("item", (5, 6)), place, (2, 0), ((5, 6),))
            wrote = (3, ("item", (5, 6)), place, (5, 7), ((5, 6),))
            self.tells(
                stood((3, place, "file", "two")),
                (("born", "file", parent, place[1], ""), ((3, born),)),
                (("write", (5, 6), "two", ((2, 0),)), ((3, wrote),)),
            )

    def test_one_beside_with_a_place_and_a_text_of_its_own(self):
        born = (3, ("item", (5, 6)), (0, "b"), (2, 0), ((5, 6),))
        wrote = (3, ("item", (5, 6)), (0, "b"), (5, 7), ((5, 6),))
        self.tells(
            stood((3, (0, "b"), "file", "three")),
            (("born", "file", None, "b", ""), ((3, born),)),
            (("write", (5, 6), "three", ((2, 0),)), ((3, wrote),)),
        )

    def test_a_file_moved_over_a_known_one(self):
        row = (9, ("item", FILE), (1, "a"), (5, 6), (FILE,))
        step = (("write", FILE, "new", ((5, 2),)), ((2, None), (9, row)))
        self.tells(stood((9, (1, "a"), "file", "new"), gone=(2,)), step)
        # Also if the text is the same.
        step = (("write", FILE, "one", ((5, 2),)), ((2, None), (9, row)))
        self.tells(stood((9, (1, "a"), "file", "one"), gone=(2,)), step)

    def test_a_file_moved_over_one_with_an_alike_name(self):
        row = (9, ("item", FILE), (1, "a"), (5, 6), (FILE,))
        behind = (9, ("item", FILE), (1, "A"), (5, 6), (FILE, (5, 7)))
        self.tells(
            stood((9, (1, "A"), "file", "new"), gone=(2,)),
            (("write", FILE, "new", ((5, 2),)), ((2, None), (9, row))),
            (("put", FILE, FOLDER, "A"), ((9, behind),)),
        )

    def test_a_file_moved_over_one_without_a_write(self):
        ahead = (2, ("item", FILE), (1, "a"), None, (FILE,))
        row = (9, ("item", FILE), (1, "a"), (5, 6), (FILE,))
        self.tells(
            stood((9, (1, "a"), "file", "new"), gone=(2,)), (("write", FILE, "new", ()), ((2, None), (9, row))), known=known(ahead)
        )

    def test_a_file_moved_over_one_beside(self):
        row = (9, ("beside", FILE, (5, 6)), (1, "a.clash1"), (5, 6), ())
        step = (("write", FILE, "new", ((2, 0),)), ((3, None), (9, row)))
        self.tells(stood((9, (1, "a.clash1"), "file", "new"), gone=(3,)), step)
        step = (("write", FILE, "two", ((2, 0),)), ((3, None), (9, row)))
        self.tells(stood((9, (1, "a.clash1"), "file", "two"), gone=(3,)), step)

    def test_a_file_moved_over_one_beside_with_an_alike_name(self):
        row = (9, ("beside", FILE, (5, 6)), (1, "a.clash1"), (5, 6), ())
        born = (9, ("item", (5, 7)), (1, "A.CLASH1"), (5, 6), ((5, 7),))
        wrote = (9, ("item", (5, 7)), (1, "A.CLASH1"), (5, 8), ((5, 7),))
        self.tells(
            stood((9, (1, "A.CLASH1"), "file", "new"), gone=(3,)),
            (("write", FILE, "new", ((2, 0),)), ((3, None), (9, row))),
            (("born", "file", FOLDER, "A.CLASH1", ""), ((9, born),)),
            (("write", (5, 7), "new", ((5, 6),)), ((9, wrote),)),
        )

    def test_changes_ascend_though_the_new_node_is_the_lesser_one(self):
        ahead = (8, ("item", OTHER), (0, "p"), (5, 4), (OTHER,))
        row = (6, ("item", OTHER), (0, "p"), (5, 6), (OTHER,))
        rows = [one for one in KNOWN if one[0] != 4] + [ahead]
        self.tells(
            stood((6, (0, "p"), "file", "new"), gone=(4,)),
            (("write", OTHER, "new", ((5, 4),)), ((6, row), (8, None))),
            known=tuple(rows),
        )

    def test_the_least_of_several_is_the_one_it_was_moved_over(self):
        more = (6, ("item", OTHER), (1, "A"), (5, 4), (OTHER,))
        row = (9, ("item", FILE), (1, "a"), (5, 6), (FILE,))
        self.tells(
            stood((9, (1, "a"), "file", "new"), gone=(2,)),
            (("write", FILE, "new", ((5, 2),)), ((2, None), (9, row))),
            (("gone", OTHER, ((5, 4),)), ((6, None),)),
            known=known(more),
        )

    def test_not_moved_over_what_stands_still(self):
        # a is called z: what stands at a now is another file.
        born = (9, ("item", (5, 6)), (1, "a"), None, ((5, 6),))
        wrote = (9, ("item", (5, 6)), (1, "a"), (5, 8), ((5, 6),))
        put = (2, ("item", FILE), (1, "z"), (5, 2), (FILE, (5, 7)))
        self.tells(
            stood((9, (1, "a"), "file", "new"), (2, (1, "z"), "file", "one")),
            (("born", "file", FOLDER, "a", ""), ((9, born),)),
            (("put", FILE, FOLDER, "z"), ((2, put),)),
            (("write", (5, 6), "new", ()), ((9, wrote),)),
        )
        # Nor over what lies in the ROOM.
        self.tells(
            stood((9, (1, "a"), "file", "new"), (2, None, "file", "one")),
            (("born", "file", FOLDER, "a", ""), ((9, born),)),
            (("write", (5, 6), "new", ()), ((9, wrote[:3] + ((5, 7),) + wrote[4:]),)),
        )

    def test_not_moved_over_in_another_folder_or_by_another_name(self):
        for place, parent in (((0, "a"), None), ((1, "b"), FOLDER)):
            born = (9, ("item", (5, 6)), place, None, ((5, 6),))
            wrote = (9, ("item", (5, 6)), place, (5, 7), ((5, 6),))
            self.tells(
                stood((9, place, "file", "one"), gone=(2,)),
                (("born", "file", parent, place[1], ""), ((9, born),)),
                (("write", (5, 6), "one", ()), ((9, wrote),)),
                (("gone", FILE, ((5, 2),)), ((2, None),)),
            )

    def test_not_moved_over_what_was_no_file(self):
        born = (9, ("item", (5, 6)), (0, "l"), None, ((5, 6),))
        wrote = (9, ("item", (5, 6)), (0, "l"), (5, 7), ((5, 6),))
        self.tells(
            stood((9, (0, "l"), "file", "t"), gone=(5,)),
            (("born", "file", None, "l", ""), ((9, born),)),
            (("write", (5, 6), "t", ()), ((9, wrote),)),
            (("gone", LINK, (LINK,)), ((5, None),)),
        )

    def test_what_is_no_file_is_not_moved_over(self):
        for kind, text in (("folder", ""), ("link", "to")):
            born = (9, ("item", (5, 6)), (1, "a"), None, ((5, 6),))
            self.tells(
                stood((9, (1, "a"), kind, text), gone=(2,)),
                (("born", kind, FOLDER, "a", text), ((9, born),)),
                (("gone", FILE, ((5, 2),)), ((2, None),)),
            )

    def test_moved_over_by_a_known_one(self):
        # The file o was moved over f/a.
        put = (4, ("item", OTHER), (1, "a"), (5, 4), (OTHER, (5, 6)))
        self.tells(
            stood((4, (1, "a"), "file", "text"), gone=(2,)),
            (("put", OTHER, FOLDER, "a"), ((4, put),)),
            (("gone", FILE, ((5, 2),)), ((2, None),)),
        )

    def test_the_same_folder_though_it_moved(self):
        put = (1, ("item", FOLDER), (0, "g"), None, (FOLDER, (5, 6)))
        row = (9, ("item", FILE), (1, "a"), (5, 7), (FILE,))
        self.tells(
            stood((1, (0, "g"), "folder", ""), (9, (1, "a"), "file", "new"), gone=(2,)),
            (("put", FOLDER, None, "g"), ((1, put),)),
            (("write", FILE, "new", ((5, 2),)), ((2, None), (9, row))),
        )

    def test_borns_of_each_kind(self):
        for kind, text in (("folder", ""), ("link", "a b"), ("link", "")):
            for place, parent in (((0, "n"), None), ((1, "n"), FOLDER)):
                row = (9, ("item", (5, 6)), place, None, ((5, 6),))
                self.tells(stood((9, place, kind, text)), (("born", kind, parent, "n", text), ((9, row),)))
        for text in ("", "some"):
            row = (9, ("item", (5, 6)), (1, "n"), None, ((5, 6),))
            wrote = (9, ("item", (5, 6)), (1, "n"), (5, 7), ((5, 6),))
            self.tells(
                stood((9, (1, "n"), "file", text)),
                (("born", "file", FOLDER, "n", ""), ((9, row),)),
                (("write", (5, 6), text, ()), ((9, wrote),)),
            )

    def test_paths_ascend_as_strings(self):
        standing = (
            (1, (0, "b"), "link", ""),
            (2, (0, "a"), "folder", ""),
            (3, (2, "x"), "link", ""),
            (4, (0, "a-b"), "link", ""),
            (5, (0, "B"), "link", ""),
            (6, (0, "a0"), "link", ""),
        )
        found = told((), 1, (), standing)
        self.assertEqual([deed[5] for deed, _ in found], ["B", "a", "a-b", "x", "a0", "b"])
        self.assertEqual([deed[1:3] for deed, _ in found], [((1, at), at + 1) for at in range(6)])

    # The ROOM.

    def test_what_is_in_the_room_itself_is_passed_over(self):
        for node in (2, 3, 4):
            row = STANDING[node - 1]
            self.tells(stood((node, None) + row[2:]))
        self.tells(stood((5, None, "link", "to")))
        self.tells(stood((9, None, "file", "new"), (10, None, "folder", ""), (11, None, "link", "x")))

    def test_what_is_in_unknown_nodes_of_the_room_is_passed_over(self):
        standing = stood((9, None, "folder", ""), (10, (9, "x"), "file", "new"), (11, (9, "y"), "folder", ""), (12, (11, "z"), "link", ""))
        self.tells(standing)

    def test_what_is_known_in_unknown_nodes_of_the_room_is_passed_over_too(self):
        row = (2, ("item", FILE), (1, "a"), (5, 6), (FILE,))
        for rest in (((2, (1, "b"), "file", "one"),), ((2, (1, "b"), "file", "new"), (10, (1, "n"), "link", ""))):
            standing = stood((9, None, "folder", ""), (1, (9, "f"), "folder", ""), *rest)
            # Its text is told all the same, wherever it lies.
            steps = [(("write", FILE, "new", ((5, 2),)), ((2, row),))] if rest[1:] else []
            self.tells(standing, *steps)

    def test_what_is_in_known_nodes_of_the_room(self):
        # f lies in the ROOM; a is called b there, a new folder came into it, and a link into this one.
        standing = stood((1, None, "folder", ""), (2, (1, "b"), "file", "one"), (9, (1, "n"), "folder", ""), (5, (9, "l"), "link", "to"))
        ahead = (1, ("item", FOLDER), None, None, (FOLDER,))
        self.tells(
            standing,
            (("put", FILE, FOLDER, "b"), ((2, (2, ("item", FILE), (1, "b"), (5, 2), (FILE, (5, 6)))),)),
            (("born", "folder", FOLDER, "n", ""), ((9, (9, ("item", (5, 7)), (1, "n"), None, ((5, 7),))),)),
            (("put", LINK, (5, 7), "l"), ((5, (5, ("item", LINK), (9, "l"), None, (LINK, (5, 8)))),)),
            known=known(ahead),
        )

    def test_a_file_moved_over_another_one_in_the_room(self):
        row = (9, ("item", FILE), (1, "a"), (5, 6), (FILE,))
        self.tells(
            stood((1, None, "folder", ""), (9, (1, "a"), "file", "new"), gone=(2,)),
            (("write", FILE, "new", ((5, 2),)), ((2, None), (9, row))),
        )

    def test_names_come_ahead_of_the_room_and_its_nodes_ascend(self):
        heard = tuple(("born", (1, at), at + 1, "folder", None, f"f{at}", "") for at in range(3))
        rows = tuple((at + 1, ("item", (1, at)), None, None, ((1, at),)) for at in range(3))
        standing = tuple((at + 1, None, "folder", "") for at in range(3))
        more = ((4, (3, "a"), "link", ""), (5, (2, "z"), "link", ""), (6, (2, "b"), "link", ""), (7, (1, "y"), "link", ""), (8, (0, "x"), "link", ""))
        found = told(heard, 2, rows, standing + more)
        self.assertEqual([(deed[4], deed[5]) for deed, _ in found], [(None, "x"), ((1, 0), "y"), ((1, 1), "b"), ((1, 1), "z"), ((1, 2), "a")])

    # Texts.

    def test_writes_in_place_and_beside(self):
        row = (2, ("item", FILE), (1, "a"), (5, 6), (FILE,))
        self.tells(stood((2, (1, "a"), "file", "new")), (("write", FILE, "new", ((5, 2),)), ((2, row),)))
        row = (3, ("beside", FILE, (5, 6)), (1, "a.clash1"), (5, 6), ())
        self.tells(stood((3, (1, "a.clash1"), "file", "new")), (("write", FILE, "new", ((2, 0),)), ((3, row),)))
        self.tells(stood((3, (1, "a.clash1"), "file", "")), (("write", FILE, "", ((2, 0),)), ((3, row),)))

    def test_a_row_without_a_write(self):
        ahead = (2, ("item", FILE), (1, "a"), None, (FILE,))
        row = (2, ("item", FILE), (1, "a"), (5, 6), (FILE,))
        for text in ("one", "", "new"):
            self.tells(stood((2, (1, "a"), "file", text)), (("write", FILE, text, ()), ((2, row),)), known=known(ahead))

    def test_a_row_with_a_write_of_another_item(self):
        ahead = (2, ("item", FILE), (1, "a"), (5, 4), (FILE,))
        row = (2, ("item", FILE), (1, "a"), (5, 6), (FILE,))
        for text in ("text", "one"):
            step = (("write", FILE, text, ((5, 4),)), ((2, row),))
            self.tells(stood((2, (1, "a"), "file", text)), step, known=known(ahead))

    def test_texts_by_nodes_wherever_they_lie(self):
        standing = stood((1, None, "folder", ""), (2, (1, "a"), "file", "p"), (3, None, "file", "q"), (4, (0, "o"), "file", "r"))
        ahead = (1, ("item", FOLDER), None, None, (FOLDER,))
        beside = (3, ("beside", FILE, (2, 0)), None, (2, 0), ())
        self.tells(
            standing,
            (("write", FILE, "p", ((5, 2),)), ((2, (2, ("item", FILE), (1, "a"), (5, 6), (FILE,))),)),
            (("write", FILE, "q", ((2, 0),)), ((3, (3, ("beside", FILE, (5, 7)), None, (5, 7), ())),)),
            (("write", OTHER, "r", ((5, 4),)), ((4, (4, ("item", OTHER), (0, "o"), (5, 8), (OTHER,))),)),
            known=known(ahead, beside),
        )

    def test_a_text_in_the_room_though_it_was_known_elsewhere(self):
        row = (4, ("item", OTHER), (0, "o"), (5, 6), (OTHER,))
        self.tells(stood((4, None, "file", "new")), (("write", OTHER, "new", ((5, 4),)), ((4, row),)))

    def test_texts_of_unknown_files_in_the_room_are_passed_over(self):
        self.tells(stood((9, None, "file", "new"), (10, None, "folder", ""), (11, (10, "x"), "file", "t")))

    # Gone.

    def test_gone(self):
        self.tells(stood(gone=(2,)), (("gone", FILE, ((5, 2),)), ((2, None),)))
        self.tells(stood(gone=(3,)), (("gone", FILE, ((2, 0),)), ((3, None),)))
        self.tells(stood(gone=(5,)), (("gone", LINK, (LINK,)), ((5, None),)))
        self.tells(
            stood(gone=(1, 2, 3)),
            (("gone", FOLDER, (FOLDER,)), ((1, None),)),
            (("gone", FILE, ((5, 2),)), ((2, None),)),
            (("gone", FILE, ((2, 0),)), ((3, None),)),
        )

    def test_gone_of_all_that_was_shown(self):
        ahead = (1, ("item", FOLDER), (0, "f"), None, ((2, 7), FOLDER, (9, 9)))
        self.tells(
            stood(gone=(1, 2, 3)),
            (("gone", FOLDER, ((2, 7), FOLDER, (9, 9))), ((1, None),)),
            (("gone", FILE, ((5, 2),)), ((2, None),)),
            (("gone", FILE, ((2, 0),)), ((3, None),)),
            known=known(ahead),
        )
        ahead = (5, ("item", LINK), (0, "l"), None, ())
        self.tells(stood(gone=(5,)), (("gone", LINK, ()), ((5, None),)), known=known(ahead))

    def test_gone_of_what_was_known_in_the_room(self):
        ahead = (4, ("item", OTHER), None, (5, 4), (OTHER,))
        born = (9, ("item", (5, 6)), (0, "o"), None, ((5, 6),))
        wrote = (9, ("item", (5, 6)), (0, "o"), (5, 7), ((5, 6),))
        self.tells(
            stood((9, (0, "o"), "file", "t"), gone=(4,)),
            (("born", "file", None, "o", ""), ((9, born),)),
            (("write", (5, 6), "t", ()), ((9, wrote),)),
            (("gone", OTHER, ((5, 4),)), ((4, None),)),
            known=known(ahead),
        )

    def test_gone_of_one_beside_whose_item_is_not_born_here(self):
        heard = (("write", (2, 0), 6, (9, 9), "t", ()),)
        rows = ((1, ("beside", (9, 9), (2, 0)), (0, "x"), (2, 0), ()),)
        self.assertEqual(told(heard, 5, rows, ()), ((("gone", (5, 0), 7, (9, 9), ((2, 0),)), ((1, None),)),))

    def test_gone_of_a_files_row_without_a_write(self):
        ahead = (2, ("item", FILE), (1, "a"), None, (FILE,))
        self.tells(stood(gone=(2,)), (None, ((2, None),)), known=known(ahead))
        # It takes no number.
        self.tells(
            stood(gone=(2, 4, 5)),
            (None, ((2, None),)),
            (("gone", OTHER, ((5, 4),)), ((4, None),)),
            (("gone", LINK, (LINK,)), ((5, None),)),
            known=known(ahead),
        )

    # All three, and the numbers.

    def test_the_three_runs(self):
        # l goes into f, f/a is written, o is gone, a file is new.
        put = (5, ("item", LINK), (1, "l"), None, (LINK, (5, 6)))
        born = (9, ("item", (5, 7)), (0, "n"), None, ((5, 7),))
        self.tells(
            stood((5, (1, "l"), "link", "to"), (2, (1, "a"), "file", "w"), (9, (0, "n"), "file", "v"), gone=(4,)),
            (("put", LINK, FOLDER, "l"), ((5, put),)),
            (("born", "file", None, "n", ""), ((9, born),)),
            (("write", FILE, "w", ((5, 2),)), ((2, (2, ("item", FILE), (1, "a"), (5, 8), (FILE,))),)),
            (("write", (5, 7), "v", ()), ((9, born[:3] + ((5, 9),) + born[4:]),)),
            (("gone", OTHER, ((5, 4),)), ((4, None),)),
        )

    def test_numbers_and_stamps(self):
        standing = ((1, (0, "x"), "file", "t"),)
        for heard, life, dot, stamp in (
            ((), 3, (3, 0), 1),
            (HEARD, 5, (5, 6), 7),
            (HEARD, 2, (2, 1), 7),
            (HEARD, 3, (3, 0), 7),
            (HEARD[:1], 5, (5, 0), 4),
            (HEARD[:1] + (("gone", (6, 0), 900, FILE, ()),), 2, (2, 1), 901),
        ):
            found = told(heard, life, (), standing)
            self.assertEqual([deed[:3] for deed, _ in found], [("born", dot, stamp), ("write", (dot[0], dot[1] + 1), stamp + 1)])

    def test_another_life_tells_of_what_others_bore(self):
        found = told(HEARD, 8, KNOWN, stood(gone=(4,)))
        self.assertEqual(found, ((("gone", (8, 0), 7, OTHER, ((5, 4),)), ((4, None),)),))


class Behind(unittest.TestCase):
    def test_rows_that_come_and_go_and_change(self):
        other = (2,) + KNOWN[3][1:]
        self.assertEqual(known_behind(KNOWN, ()), KNOWN)
        self.assertEqual(known_behind((), ()), ())
        self.assertEqual(known_behind((), ((2, other),)), (other,))
        self.assertEqual(known_behind(KNOWN, ((2, other),)), KNOWN[:1] + (other,) + KNOWN[2:])
        self.assertEqual(known_behind(KNOWN, ((2, None),)), KNOWN[:1] + KNOWN[2:])
        self.assertEqual(known_behind(KNOWN, tuple((row[0], None) for row in KNOWN)), ())
        new = (9,) + KNOWN[3][1:]
        self.assertEqual(known_behind(KNOWN, ((1, None), (2, other), (9, new))), (other,) + KNOWN[2:] + (new,))
        self.assertEqual(known_behind(KNOWN[1:], ((1, KNOWN[0]),)), KNOWN)
        self.assertEqual(known_behind(KNOWN[:2] + KNOWN[3:], ((3, KNOWN[2]),)), KNOWN)

    def test_none_for_a_node_without_a_row(self):
        self.assertEqual(known_behind(KNOWN, ((7, None),)), KNOWN)
        self.assertEqual(known_behind((), ((1, None), (5, None))), ())

    def test_what_are_no_changes(self):
        row = KNOWN[1]
        for value in (
            ((3, row),),
            ((0, None),),
            ((True, None),),
            ((2, row), (1, None)),
            ((2, row), (2, row)),
            ((2, None), (2, None)),
            [(2, row)],
            ([2, row],),
            ((2, list(row)),),
            ((2, row, row),),
            (2, row),
            ((2,),),
            ((2, ()),),
            ((2, False),),
            {2: row},
        ):
            self.assertIs(raised(BadChanges, known_behind, KNOWN, value), value)

    def test_row_by_row(self):
        for seed in range(60):
            chance = random.Random(seed)
            rows = KNOWN
            for _ in range(12):
                changes = []
                for node in sorted(chance.sample(range(1, 9), chance.randint(0, 3))):
                    changes.append((node, None if chance.random() < 0.5 else (node,) + chance.choice(KNOWN)[1:]))
                expected = {row[0]: row for row in rows if row[0] not in dict(changes)}
                expected.update({node: row for node, row in changes if row is not None})
                rows = known_behind(rows, tuple(changes))
                self.assertEqual(rows, tuple(expected[node] for node in sorted(expected)))


class Left(unittest.TestCase):
    """Behind each deed just the others are told, and behind all of them none."""

    def test_by_chance(self):
        met = {}
        for seed in range(120):
            chance = random.Random(seed)
            hands = [Hand(Disc(), 1), Hand(Disc(), 2)]
            for hand in hands * 4:
                other = chance.choice(hands)
                list(hand.hear(other))
                hand.place()
                for _ in range(chance.randint(0, 9)):
                    program(chance, hand.disc)
                standing = hand.look()
                self.assertEqual(standing, plain_keeping.standing(hand.disc))
                found = told(hand.heard, hand.life, hand.known, standing)
                self.assertEqual(found, plain_keeping.told(hand.heard, hand.life, hand.known, standing))
                for at, (deed, changes) in enumerate(found):
                    self.assertEqual(told(hand.heard, hand.life, hand.known, standing), found[at:])
                    self.assertTrue(plain_forms.changes(changes) and changes)
                    if deed is not None:
                        self.assertEqual(deed[1][0], hand.life)
                        hand.heard = hears(hand.heard, deed)
                    hand.known = known_behind(hand.known, changes)
                    word = deed and deed[0]
                    met[word] = met.get(word, 0) + 1
                self.assertEqual(told(hand.heard, hand.life, hand.known, standing), ())
                # Now all that stands at names is known, where it is and with its text.
                rows = {row[0]: row for row in hand.known}
                texts = {deed[1]: deed[4] for deed in hand.heard if deed[0] == "write"}
                for _, node, kind, text, _ in hand.disc.nodes()[1:]:
                    self.assertEqual(rows[node][2], hand.disc.spot(node)[0])
                    self.assertTrue(kind != "file" or texts[rows[node][3]] == text)
        self.assertTrue(all(met[word] > 40 for word in ("born", "put", "write", "gone")), met)


class Errors(unittest.TestCase):
    def test_which_comes_first(self):
        wrong = ([1], True, [2], [3])
        good = (HEARD, 5, KNOWN, STANDING)
        errors = (BadHeard, BadLife, BadKnown, BadStanding)
        for at in range(4):
            values = good[:at] + wrong[at:]
            self.assertIs(raised(errors[at], told, *values), wrong[at])
            self.assertIs(raised(errors[at], told, *good[:at], wrong[at], *good[at + 1 :]), wrong[at])

    def test_lives(self):
        for value in (0, -1, 1000001, True, None, "5", (5,)):
            self.assertIs(raised(BadLife, told, HEARD, value, KNOWN, STANDING), value)

    def test_standings(self):
        row = STANDING[1]
        for value in (
            (row, row),
            (STANDING[1], STANDING[0]),
            ((0,) + row[1:],),
            ((True,) + row[1:],),
            ((2, (1, "a"), "file"),),
            ((2, (1, "a"), "file", "one", 0),),
            ((2, (1, "a"), "folder", "one"),),
            ((2, (1, "a"), "dir", ""),),
            ((2, [1, "a"], "file", ""),),
            ((2, (-1, "a"), "file", ""),),
            ((2, (True, "a"), "file", ""),),
            ((2, (1, "a/b"), "file", ""),),
            ((2, (1, ""), "file", ""),),
            ((2, (1,), "file", ""),),
            ((2, (), "file", ""),),
            ((2, (1, "a"), "file", "\n"),),
            ((2, (1, "a"), "file", None),),
            (list(row),),
            list(STANDING),
            None,
        ):
            self.assertIs(raised(BadStanding, told, HEARD, 5, KNOWN, value), value)

    def test_knowns(self):
        row = KNOWN[1]
        for value in (
            (row, row),
            (KNOWN[1], KNOWN[0]),
            ((0,) + row[1:],),
            ((True,) + row[1:],),
            (row[:4],),
            (row + (None,),),
            (row[:1] + (FILE,) + row[2:],),
            (row[:1] + (("item",),) + row[2:],),
            (row[:1] + (("item", FILE, FILE),) + row[2:],),
            (row[:1] + (("beside", FILE),) + row[2:],),
            (row[:1] + (("beside", FILE, None),) + row[2:],),
            (row[:1] + (["item", FILE],) + row[2:],),
            (row[:2] + ((1, "a", 1),) + row[3:],),
            (row[:2] + ((1, ".."),) + row[3:],),
            (row[:2] + ((-1, "a"),) + row[3:],),
            (row[:2] + ("room",) + row[3:],),
            (row[:3] + (5,) + row[4:],),
            (row[:3] + ((),) + row[4:],),
            (row[:3] + ([5, 2],) + row[4:],),
            (row[:4] + ([FILE],),),
            (row[:4] + ((FILE, FILE),),),
            (row[:4] + ((OTHER, FILE),),),
            (row[:4] + (None,),),
            (row[:4] + (FILE,),),
            (list(row),),
            list(KNOWN),
            {2: row},
        ):
            self.assertIs(raised(BadKnown, told, HEARD, 5, value, STANDING), value)
            self.assertIs(raised(BadKnown, known_behind, value, ()), value)
            self.assertIs(raised(BadKnown, known_behind, value, None), value)
