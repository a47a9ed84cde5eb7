"""How a folder is brought to the picture: what is due, what is left, which ROW is behind an act."""

import random
import unittest

from allonetree.discs import Disc
from allonetree.errors import BadAct, BadHeard, BadKey, BadKnown, BadNode, BadTried, NoDisc
from allonetree.pictures import entries
from allonetree.placing import due, left, row_behind, shows
from tests import plain_forms, plain_heard, plain_keeping
from tests.chances import wild
from tests.values import any_values, bends, raised

# A folder with a file of two writes in it, a file without writes, and a link that was put.
FOLDER, FILE, EMPTY, LINK = (1, 0), (1, 1), (1, 3), (2, 0)
HEARD = (
    ("born", FOLDER, 1, "folder", None, "f", ""),
    ("born", FILE, 2, "file", FOLDER, "a", ""),
    ("write", (1, 2), 3, FILE, "one", ()),
    ("born", EMPTY, 4, "file", None, "e", ""),
    ("born", LINK, 5, "link", None, "l", "to"),
    ("put", (2, 1), 6, LINK, FOLDER, "k"),
    ("write", (2, 2), 7, FILE, "two", ()),
)
F_KEY, A_KEY, L_KEY, BESIDE = ("item", FOLDER), ("item", FILE), ("item", LINK), ("beside", FILE, (1, 2))
F_ROW = (1, F_KEY, (0, "f"), None, (FOLDER,))
A_ROW = (2, A_KEY, (1, "a"), (2, 2), (FILE,))
L_ROW = (3, L_KEY, (1, "k"), None, (LINK, (2, 1)))
B_ROW = (4, BESIDE, (1, "a.clash1"), (1, 2), ())
KNOWN = (F_ROW, A_ROW, L_ROW, B_ROW)


def placed():
    """A disc on which all of HEARD stands, by KNOWN."""
    disc = Disc()
    acts = (("folder", "f"), ("file", "f/a", "two"), ("link", "f/k", "to"), ("file", "f/a.clash1", "one"))
    for act in acts:
        disc.do(act)
    return disc


def known(*rows, gone=()):
    found = {row[0]: row for row in KNOWN + rows if row[0] not in gone}
    return tuple(found[node] for node in sorted(found))


def gone(dot, stamp, item, *covers):
    return ("gone", dot, stamp, item, covers)


class Cases(unittest.TestCase):
    def is_due(self, act, pair, disc, known=KNOWN, heard=HEARD, tried=()):
        before = disc.copy()
        self.assertEqual(due(heard, known, disc, tried), act)
        self.assertEqual(plain_keeping.due(heard, known, disc, tried), act)
        self.assertEqual(left(heard, known, disc), pair)
        self.assertEqual(plain_keeping.left(heard, known, disc), pair)
        self.assertTrue(disc == before)


class Shows(unittest.TestCase):
    def test_keys(self):
        self.assertEqual(shows(HEARD, F_KEY), (None, (FOLDER,)))
        self.assertEqual(shows(HEARD, A_KEY), ((2, 2), (FILE,)))
        self.assertEqual(shows(HEARD, ("item", EMPTY)), (None, (EMPTY,)))
        self.assertEqual(shows(HEARD, L_KEY), (None, (LINK, (2, 1))))
        self.assertEqual(shows(HEARD, BESIDE), ((1, 2), ()))
        self.assertEqual(shows((), BESIDE), ((1, 2), ()))
        self.assertEqual(shows(HEARD, ("beside", (9, 9), (8, 8))), ((8, 8), ()))

    def test_the_last_live_write(self):
        more = HEARD + (("write", (3, 0), 5, FILE, "three", ()),)
        self.assertEqual(shows(more, A_KEY), ((2, 2), (FILE,)))
        more = HEARD + (("write", (3, 0), 7, FILE, "three", ()),)
        self.assertEqual(shows(more, A_KEY), ((3, 0), (FILE,)))
        more = HEARD + (gone((3, 0), 9, FILE, (2, 2)),)
        self.assertEqual(shows(more, A_KEY), ((1, 2), (FILE,)))
        more = HEARD + (gone((3, 0), 9, FILE, (1, 2), (2, 2)),)
        self.assertEqual(shows(more, A_KEY), (None, (FILE,)))

    def test_all_borns_and_puts(self):
        # What is left out, and what is covered, is shown too.
        more = HEARD + (("put", (3, 0), 2, LINK, LINK, "x"), ("put", (3, 1), 3, FILE, None, "x"), gone((3, 2), 9, LINK, LINK))
        self.assertEqual(shows(more, L_KEY), (None, (LINK, (2, 1), (3, 0))))
        self.assertEqual(shows(more, A_KEY), ((2, 2), (FILE, (3, 1))))

    def test_what_is_not_born(self):
        more = HEARD + (("put", (3, 0), 2, (9, 9), None, "x"), ("write", (3, 1), 3, (9, 9), "t", ()), ("write", (3, 2), 4, LINK, "t", ()))
        self.assertEqual(shows(more, ("item", (9, 9))), (None, ((3, 0),)))
        self.assertEqual(shows(more, ("item", (9, 8))), (None, ()))
        self.assertEqual(shows(more, ("item", (2, 2))), (None, ()))
        self.assertEqual(shows(more, L_KEY), (None, (LINK, (2, 1))))
        self.assertEqual(shows((), L_KEY), (None, ()))

    def test_by_chance(self):
        for seed in range(120):
            heard = wild(random.Random(seed), 3, 18)
            for deed in heard:
                for key in (("item", deed[1]), ("beside", deed[1], (1, 0))):
                    self.assertEqual(shows(heard, key), plain_heard.shows(heard, key))

    def test_what_is_no_key(self):
        for value in (("item",), ("item", None), ("item", FILE, FILE), ("beside", FILE), ("Item", FILE), ("beside", FILE, None)):
            self.assertIs(raised(BadKey, shows, HEARD, value), value)
        for value in (["item", FILE], ("item", list(FILE)), ("item", (True, 0)), ("item", 1), FILE, "item", None, ()):
            self.assertIs(raised(BadKey, shows, HEARD, value), value)
            self.assertEqual(raised(BadHeard, shows, None, value), None)


class NoneDue(Cases):
    def test_none(self):
        self.is_due(None, (0, 0), Disc(), (), ())
        self.is_due(None, (0, 0), placed())

    def test_what_nobody_knows_is_let_alone(self):
        disc = placed()
        for act in (("file", "n", "x"), ("folder", "f/g"), ("link", "f/g/h", "")):
            disc.do(act)
        disc.make("file", "y")
        self.is_due(None, (0, 0), disc)


class First(Cases):
    """A node in the ROOM: tell or drop."""

    def in_room(self, node, row):
        disc = placed()
        self.assertTrue(disc.shift(node, disc.spot(node)[0], None))
        return disc, known(row[:2] + (None,) + row[3:])

    def test_what_is_not_wanted_is_dropped(self):
        disc, rows = self.in_room(3, L_ROW)
        more = HEARD + (gone((3, 0), 9, LINK, LINK, (2, 1)),)
        self.is_due(("drop", 3), (0, 1), disc, rows, more)
        disc, rows = self.in_room(4, B_ROW)
        more = HEARD + (gone((3, 0), 9, FILE, (1, 2)),)
        self.is_due(("drop", 4), (0, 1), disc, rows, more)
        # One beside whose write is the last one now.
        more = HEARD + (gone((3, 0), 9, FILE, (2, 2)),)
        self.is_due(("drop", 4), (0, 1 + 4), disc, rows, more)

    def test_a_folder_that_is_not_wanted(self):
        disc = Disc()
        disc.make("folder", "")
        rows = (F_ROW[:2] + (None,) + F_ROW[3:],)
        more = HEARD[:1] + (("gone", (1, 1), 2, FOLDER, (FOLDER,)),)
        self.is_due(("drop", 1), (0, 1), disc, rows, more)
        # One that holds a name is let alone, but counts.
        disc.shift(disc.make("file", ""), None, (1, "x"))
        self.is_due(None, (0, 1), disc, rows, more)

    def test_the_next_one_behind_a_folder_that_holds_a_name(self):
        disc = Disc()
        for kind in ("folder", "file", "file"):
            disc.make(kind, "")
        disc.shift(2, None, (1, "x"))
        rows = (F_ROW[:2] + (None,) + F_ROW[3:], (3, ("item", EMPTY), None, (9, 9), ()))
        self.is_due(("tell", 3), (1, 1), disc, rows, ())

    def test_another_text_is_dropped(self):
        disc, rows = self.in_room(2, A_ROW)
        more = HEARD + (("write", (3, 0), 9, FILE, "three", ((2, 2),)),)
        self.is_due(("drop", 2), (0, 3), disc, rows, more)

    def test_what_nobody_heard_is_told(self):
        for heard, wanted in ((HEARD, True), (HEARD + (gone((3, 0), 9, FILE, (1, 2), (2, 2)),), False)):
            disc = placed()
            disc.do(("file", "f/a", "new"))
            disc.shift(2, (1, "a"), None)
            rows = known(A_ROW[:2] + (None,) + A_ROW[3:])
            acts = 0 if wanted else 2
            self.is_due(("tell", 2), (1, acts), disc, rows, heard)
            # Also if it was tried.
            self.is_due(("tell", 2), (1, acts), disc, rows, heard, (2,))

    def test_a_text_without_a_write_is_told(self):
        for text in ("", "x"):
            disc = Disc()
            disc.make("file", text)
            self.is_due(("tell", 1), (1, 0), disc, ((1, ("item", EMPTY), None, None, (EMPTY,)),), ())

    def test_the_text_of_a_write_of_another_item_or_that_is_not_heard_is_none(self):
        disc = Disc()
        disc.make("file", "one")
        # The folder is wanted, and has no node.
        heard = HEARD[:3] + (("born", EMPTY, 4, "file", None, "e", ""), gone((1, 4), 9, FILE, (1, 2)))
        self.is_due(("tell", 1), (1, 2), disc, ((1, ("item", EMPTY), None, (1, 2), ()),), heard)
        self.is_due(("tell", 1), (1, 2), disc, ((1, A_KEY, None, (7, 7), ()),), heard)
        self.is_due(("tell", 1), (1, 2), disc, ((1, A_KEY, None, FILE, ()),), heard)
        self.is_due(("drop", 1), (0, 3), disc, ((1, A_KEY, None, (1, 2), ()),), heard)
        self.is_due(("drop", 1), (0, 3), disc, ((1, ("beside", FILE, (1, 2)), None, (1, 2), ()),), heard)

    def test_the_very_text_of_the_entry_is_not_told(self):
        # A program wrote what was heard meanwhile: it can be put, though its write tells another text.
        disc = placed()
        disc.do(("file", "f/a", "three"))
        disc.shift(2, (1, "a"), None)
        rows = known(A_ROW[:2] + (None,) + A_ROW[3:])
        more = HEARD + (("write", (3, 0), 9, FILE, "three", ((2, 2),)),)
        self.is_due(("shift", 2, None, (1, "a")), (1, 0), disc, rows, more)

    def test_the_least_node_first(self):
        disc = placed()
        more = HEARD + (gone((3, 0), 9, FILE, (1, 2), (2, 2)), gone((3, 1), 10, LINK, LINK, (2, 1)))
        for node in (4, 3, 2):
            disc.shift(node, disc.spot(node)[0], None)
        rows = known(*[row[:2] + (None,) + row[3:] for row in KNOWN[1:]])
        self.is_due(("drop", 2), (0, 3), disc, rows, more)
        disc.drop(2)
        self.is_due(("drop", 3), (0, 2), disc, known(*rows[2:], gone=(2,)), more)


class Second(Cases):
    """A node at a name: into the ROOM."""

    def test_what_is_not_wanted(self):
        more = HEARD + (gone((3, 0), 9, LINK, LINK, (2, 1)),)
        self.is_due(("shift", 3, (1, "k"), None), (0, 2), placed(), KNOWN, more)
        more = HEARD + (gone((3, 0), 9, FILE, (1, 2)),)
        self.is_due(("shift", 4, (1, "a.clash1"), None), (0, 2), placed(), KNOWN, more)

    def test_a_folder_that_is_not_wanted_with_all_in_it(self):
        covers = (FOLDER, FILE, (1, 2), LINK, (2, 1), (2, 2))
        more = HEARD + (("gone", (3, 0), 9, FOLDER, covers),)
        self.is_due(("shift", 1, (0, "f"), None), (0, 8), placed(), KNOWN, more)

    def test_another_name_or_another_folder(self):
        more = HEARD + (("put", (3, 0), 9, LINK, FOLDER, "K"),)
        self.is_due(("shift", 3, (1, "k"), None), (0, 2), placed(), KNOWN, more)
        more = HEARD + (("put", (3, 0), 9, LINK, None, "k"),)
        self.is_due(("shift", 3, (1, "k"), None), (0, 2), placed(), KNOWN, more)
        more = HEARD + (("put", (3, 0), 9, FOLDER, None, "F"),)
        self.is_due(("shift", 1, (0, "f"), None), (0, 2), placed(), KNOWN, more)

    def test_a_folder_that_has_no_node(self):
        disc = placed()
        self.is_due(("shift", 2, (1, "a"), None), (0, 2 + 2 * 3), disc, known(gone=(1,)))

    def test_another_text(self):
        more = HEARD + (("write", (3, 0), 9, FILE, "three", ((1, 2), (2, 2))),)
        self.is_due(("shift", 2, (1, "a"), None), (0, 4 + 2), placed(), KNOWN, more)
        # Its place and its text are other ones: it counts as by its text.
        more = more + (("put", (3, 1), 10, FILE, None, "a"),)
        self.is_due(("shift", 2, (1, "a"), None), (0, 4 + 2), placed(), KNOWN, more)

    def test_one_in_place_and_one_beside_exchanged(self):
        # The last write is another one now: what was in place is beside.
        more = HEARD[:3] + HEARD[3:6] + (("write", (2, 2), 7, FILE, "two", ()), ("write", (3, 0), 8, FILE, "three", ()))
        self.is_due(("shift", 2, (1, "a"), None), (0, 4 + 2), placed(), KNOWN, more)

    def test_what_a_program_wrote_meanwhile_stays(self):
        disc = placed()
        disc.do(("file", "f/a", "new"))
        self.is_due(None, (0, 0), disc)
        for more in (
            ("write", (3, 0), 9, FILE, "three", ((2, 2),)),
            ("put", (3, 0), 9, FILE, None, "a"),
            gone((3, 0), 9, FILE, (1, 2), (2, 2)),
        ):
            rows = known(gone=(4,)) if more[0] == "gone" else KNOWN
            # One beside is called by the name of its file: with a put it has to go.
            if more[0] != "put":
                self.is_due(None, (0, 0), disc, rows, HEARD + (more,))
            else:
                self.is_due(("shift", 4, (1, "a.clash1"), None), (0, 2), disc, rows, HEARD + (more,))

    def test_what_was_tried(self):
        more = HEARD + (gone((3, 0), 9, LINK, LINK, (2, 1)), gone((3, 1), 10, FILE, (1, 2)))
        self.is_due(("shift", 3, (1, "k"), None), (0, 4), placed(), KNOWN, more)
        self.is_due(("shift", 4, (1, "a.clash1"), None), (0, 4), placed(), KNOWN, more, (3,))
        self.is_due(("shift", 3, (1, "k"), None), (0, 4), placed(), KNOWN, more, (4,))
        self.is_due(None, (0, 4), placed(), KNOWN, more, (4, 3, 0, 9, 3))

    def test_the_least_node_first(self):
        disc = placed()
        more = HEARD + (("put", (3, 0), 9, LINK, None, "k"), ("put", (3, 1), 10, FILE, None, "z"))
        self.is_due(("shift", 2, (1, "a"), None), (0, 6), disc, KNOWN, more)


class Third(Cases):
    """A node in the ROOM that is wanted: to its name."""

    def test_to_its_name(self):
        for row in KNOWN:
            disc = placed()
            disc.shift(row[0], row[2], None)
            rows = known(row[:2] + (None,) + row[3:])
            self.is_due(("shift", row[0], None, row[2]), (0, 1), disc, rows)

    def test_a_name_that_is_taken_is_tried_all_the_same(self):
        disc = placed()
        disc.shift(3, (1, "k"), None)
        disc.do(("file", "f/K", "theirs"))
        rows = known(L_ROW[:2] + (None,) + L_ROW[3:])
        act = ("shift", 3, None, (1, "k"))
        self.is_due(act, (0, 1), disc, rows)
        self.assertIs(disc.shift(*act[1:]), False)
        self.is_due(None, (0, 1), disc, rows, HEARD, (3,))
        self.is_due(act, (0, 1), disc, rows, HEARD, (1, 2, 4))

    def test_into_a_folder_that_lies_in_the_room(self):
        disc = placed()
        disc.shift(3, (1, "k"), None)
        disc.shift(1, (0, "f"), None)
        rows = known(F_ROW[:2] + (None,) + F_ROW[3:], L_ROW[:2] + (None,) + L_ROW[3:])
        self.is_due(("shift", 1, None, (0, "f")), (0, 2), disc, rows)
        self.is_due(("shift", 3, None, (1, "k")), (0, 2), disc, rows, HEARD, (1,))

    def test_into_a_folder_that_a_program_moved(self):
        disc = placed()
        disc.shift(3, (1, "k"), None)
        disc.do(("move", "f", "g"))
        self.is_due(("shift", 3, None, (1, "k")), (0, 1), disc, known(L_ROW[:2] + (None,) + L_ROW[3:]))

    def test_no_folder(self):
        # It vanished: its node is not on the disc.
        disc = placed()
        disc.shift(3, (1, "k"), None)
        disc.do(("gone", "f"))
        self.is_due(None, (0, 1), disc, known(L_ROW[:2] + (None,) + L_ROW[3:]))
        # It has no node yet: this is made first.
        self.is_due(("make", F_KEY, "folder", ""), (0, 1 + 2), disc, known(L_ROW[:2] + (None,) + L_ROW[3:], gone=(1,)))

    def test_the_least_node_first(self):
        disc = placed()
        for node in (4, 2, 3):
            disc.shift(node, disc.spot(node)[0], None)
        rows = known(*[row[:2] + (None,) + row[3:] for row in KNOWN[1:]])
        self.is_due(("shift", 2, None, (1, "a")), (0, 3), disc, rows)
        self.is_due(("shift", 3, None, (1, "k")), (0, 3), disc, rows, HEARD, (2,))

    def test_the_least_of_several_nodes_of_a_parent(self):
        disc = placed()
        disc.shift(3, (1, "k"), None)
        disc.make("folder", "")
        more = (5,) + F_ROW[1:2] + (None,) + F_ROW[3:]
        self.is_due(("shift", 3, None, (1, "k")), (0, 2), disc, known(L_ROW[:2] + (None,) + L_ROW[3:], more))


class Fourth(Cases):
    """A KEY without a node."""

    def test_by_its_entry_and_the_first_key_first(self):
        disc = Disc()
        self.is_due(("make", F_KEY, "folder", ""), (0, 8), disc, ())
        rows = ()
        for at, act in enumerate([("make", key, kind, text) for key, _, _, kind, text in entries(HEARD)]):
            # All known nodes are nowhere on the disc: they are not still.
            self.is_due(act, (0, 8 - 2 * at), disc, rows)
            rows += ((at + 1, act[1], (0, "x"), None, ()),)
        self.assertEqual([row[1] for row in rows], [F_KEY, A_KEY, L_KEY, BESIDE])
        self.is_due(None, (0, 0), disc, rows)

    def test_texts(self):
        disc = placed()
        self.is_due(("make", A_KEY, "file", "two"), (0, 2), disc, known(gone=(2,)))
        self.is_due(("make", L_KEY, "link", "to"), (0, 2), disc, known(gone=(3,)))
        self.is_due(("make", BESIDE, "file", "one"), (0, 2), disc, known(gone=(4,)))

    def test_a_node_that_is_not_still_is_one(self):
        disc = placed()
        disc.do(("gone", "f/k"))
        self.is_due(None, (0, 0), disc)
        disc = placed()
        disc.do(("move", "f/k", "k"))
        self.is_due(None, (0, 0), disc)

    def test_what_is_not_placed_is_not_made(self):
        heard = (("born", (1, 0), 1, "link", (9, 9), "x", ""),)
        self.is_due(None, (0, 0), Disc(), (), heard)


class Fifth(Cases):
    """A node as it has to be, whose ROW tells otherwise."""

    def test_rows_that_are_behind(self):
        for row in (
            F_ROW[:4] + ((),),
            F_ROW[:4] + ((FOLDER, (5, 5)),),
            L_ROW[:4] + ((LINK,),),
            A_ROW[:4] + ((),),
            A_ROW[:3] + ((1, 2),) + A_ROW[4:],
            A_ROW[:3] + (None,) + A_ROW[4:],
            B_ROW[:4] + (((1, 2),),),
            B_ROW[:3] + (None,) + B_ROW[4:],
        ):
            self.is_due(("show", row[0]), (0, 1), placed(), known(row))
            self.is_due(("show", row[0]), (0, 1), placed(), known(row), HEARD, (row[0],))

    def test_a_put_that_changes_nothing_in_the_picture(self):
        more = HEARD + (("put", (3, 0), 2, LINK, None, "x"), ("put", (3, 1), 3, FOLDER, FOLDER, "y"))
        self.is_due(("show", 1), (0, 2), placed(), KNOWN, more)

    def test_a_write_with_the_same_text(self):
        more = HEARD + (("write", (3, 0), 9, FILE, "two", ((2, 2),)),)
        self.is_due(("show", 2), (0, 1), placed(), KNOWN, more)

    def test_a_program_wrote_the_very_text(self):
        disc = placed()
        disc.do(("file", "f/a", "three"))
        more = HEARD + (("write", (3, 0), 9, FILE, "three", ((2, 2),)),)
        self.is_due(("show", 2), (0, 1), disc, KNOWN, more)

    def test_not_where_place_or_text_are_other_ones(self):
        row = L_ROW[:4] + ((),)
        disc = placed()
        disc.do(("move", "f/k", "f/z"))
        self.is_due(None, (0, 0), disc, known(row))
        row = A_ROW[:4] + ((),)
        disc = placed()
        disc.do(("file", "f/a", "new"))
        self.is_due(None, (0, 0), disc, known(row))

    def test_the_least_node_first(self):
        rows = known(L_ROW[:4] + ((),), B_ROW[:4] + ((FILE,),))
        self.is_due(("show", 3), (0, 2), placed(), rows)


class Lines(Cases):
    """The first line comes first, whatever the nodes."""

    def test_each_line_ahead_of_the_next_ones(self):
        # Nodes: 1 f, its ROW behind; 2 a, to its name; 3 the link, not wanted at its name; 4 beside, with a text nobody heard.
        disc = placed()
        disc.do(("file", "f/a.clash1", "new"))
        for node in (2, 4):
            disc.shift(node, disc.spot(node)[0], None)
        more = HEARD + (gone((3, 0), 9, LINK, LINK, (2, 1)), ("born", (3, 1), 10, "folder", None, "g", ""))
        rows = (F_ROW[:4] + ((),), A_ROW[:2] + (None,) + A_ROW[3:], L_ROW, B_ROW[:2] + (None,) + B_ROW[3:])
        # Counted: 1 for f, 1 for a, 2 for the link, 2 for g; the text of 4 by itself.
        self.is_due(("tell", 4), (1, 6), disc, rows, more)
        disc.do(("folder", "x"))
        rows = rows[:3]
        more = more[:-2] + (gone((3, 0), 9, LINK, LINK, (2, 1)), ("born", (3, 1), 10, "folder", None, "g", ""))
        self.is_due(("shift", 3, (1, "k"), None), (0, 8), disc, rows, more)
        self.is_due(("shift", 2, None, (1, "a")), (0, 8), disc, rows, more, (3,))
        self.is_due(("make", ("item", (3, 1)), "folder", ""), (0, 8), disc, rows, more, (2, 3))
        rows += ((9, ("item", (3, 1)), None, None, ()), (10, BESIDE, None, None, ()))
        self.is_due(("show", 1), (0, 4), disc, rows, more, (2, 3))


class NotStill(Cases):
    def test_nodes_that_are_not_where_their_row_tells_are_let_alone(self):
        more = HEARD + (gone((3, 0), 9, LINK, LINK, (2, 1)), ("put", (3, 1), 10, FILE, None, "z"), gone((3, 2), 11, FILE, (1, 2)))
        moves = {2: ("move", "f/a", "f/b"), 3: ("move", "f/k", "K"), 4: ("gone", "f/a.clash1")}
        disc = placed()
        self.is_due(("shift", 2, (1, "a"), None), (0, 6), disc, KNOWN, more)
        disc.do(moves[2])
        self.is_due(("shift", 3, (1, "k"), None), (0, 4), disc, KNOWN, more)
        disc.do(moves[3])
        self.is_due(("shift", 4, (1, "a.clash1"), None), (0, 2), disc, KNOWN, more)
        disc.do(moves[4])
        self.is_due(None, (0, 0), disc, KNOWN, more)

    def test_a_spelling_is_another_place(self):
        disc = placed()
        disc.do(("move", "f/k", "f/K"))
        more = HEARD + (gone((3, 0), 9, LINK, LINK, (2, 1)),)
        self.is_due(None, (0, 0), disc, KNOWN, more)

    def test_in_the_room_or_not(self):
        more = HEARD + (gone((3, 0), 9, LINK, LINK, (2, 1)),)
        # It is in the ROOM, and known at a name; or the other way round.
        disc = placed()
        disc.shift(3, (1, "k"), None)
        self.is_due(None, (0, 0), disc, KNOWN, more)
        self.is_due(None, (0, 0), placed(), known(L_ROW[:2] + (None,) + L_ROW[3:]), more)


class Rows(unittest.TestCase):
    def test_make(self):
        for key, kind, text in ((F_KEY, "folder", ""), (A_KEY, "file", "two"), (L_KEY, "link", "to"), (BESIDE, "file", "one")):
            act = ("make", key, kind, text)
            for node in (1, 3, 9):
                self.assertEqual(row_behind(HEARD, KNOWN, act, node), (node, key, None) + shows(HEARD, key))
        act = ("make", ("item", (9, 9)), "file", "t")
        self.assertEqual(row_behind((), (), act, 1), (1, ("item", (9, 9)), None, None, ()))

    def test_shift_into_the_room(self):
        ahead = (7, A_KEY, (1, "z"), (1, 2), ((8, 8),))
        for place in ((1, "z"), (0, "other")):
            self.assertEqual(row_behind(HEARD, known(ahead), ("shift", 7, place, None), 7), (7, A_KEY, None, (1, 2), ((8, 8),)))

    def test_shift_to_a_goal(self):
        for ahead in ((7, A_KEY, None, (1, 2), ((8, 8),)), (7, A_KEY, (5, "y"), None, ())):
            behind = (7, A_KEY, (3, "z"), (2, 2), (FILE,))
            self.assertEqual(row_behind(HEARD, known(ahead), ("shift", 7, None, (3, "z")), 7), behind)
        ahead = (7, L_KEY, None, None, ())
        self.assertEqual(row_behind(HEARD, known(ahead), ("shift", 7, None, (0, "l")), 7), (7, L_KEY, (0, "l"), None, (LINK, (2, 1))))
        ahead = (7, BESIDE, None, None, (FILE,))
        self.assertEqual(row_behind(HEARD, known(ahead), ("shift", 7, None, (0, "l")), 7), (7, BESIDE, (0, "l"), (1, 2), ()))

    def test_show(self):
        for place in (None, (1, "a"), (4, "x")):
            ahead = (7, A_KEY, place, None, ())
            self.assertEqual(row_behind(HEARD, known(ahead), ("show", 7), 7), (7, A_KEY, place, (2, 2), (FILE,)))
        self.assertEqual(row_behind((), KNOWN, ("show", 2), 2), (2, A_KEY, (1, "a"), None, ()))

    def test_drop(self):
        for row in KNOWN:
            self.assertIsNone(row_behind(HEARD, KNOWN, ("drop", row[0]), row[0]))

    def test_what_is_no_act(self):
        acts = [("drop", 2), ("show", 2), ("shift", 2, (1, "a"), None), ("shift", 2, None, (0, "b"))]
        acts += [("make", A_KEY, "file", "x"), ("make", BESIDE, "file", ""), ("make", F_KEY, "folder", ""), ("make", L_KEY, "link", "t")]
        met = 0
        nodes = [row[0] for row in KNOWN]
        for act in acts:
            row_behind(HEARD, KNOWN, act, 2)
            for value in bends(act) + any_values():
                is_good = plain_forms.act(value) and value[0] != "tell" and (value[0] == "make" or value[1] in nodes)
                if not is_good:
                    met += 1
                    self.assertIs(raised(BadAct, row_behind, HEARD, KNOWN, value, 2), value)
        self.assertGreater(met, 300)
        self.assertEqual(raised(BadAct, row_behind, HEARD, (), ("drop", 2), 2), ("drop", 2))
        for value in (
            ("tell", 2),
            ("drop", 5),
            ("show", 0),
            ("show", 9),
            ("drop", True),
            ("drop",),
            ("drop", 2, None),
            ("shift", 9, None, (0, "a")),
            ("shift", 2, None, None),
            ("shift", 2, (1, "a"), (0, "b")),
            ("shift", 2, (1, "a")),
            ("make", F_KEY, "folder", "x"),
            ("make", A_KEY, "file"),
            ("make", A_KEY),
            ("make", F_KEY),
            ("make", 2, "file", ""),
            ("make", A_KEY, "dir", ""),
            ["drop", 2],
            None,
        ):
            self.assertIs(raised(BadAct, row_behind, HEARD, KNOWN, value, 2), value)
            self.assertIs(raised(BadAct, row_behind, HEARD, KNOWN, value, None), value)

    def test_what_is_not_its_node(self):
        acts = [("drop", 2), ("show", 2), ("shift", 2, (1, "a"), None), ("shift", 2, None, (0, "b")), ("make", A_KEY, "file", "x")]
        for act in acts:
            for value in any_values():
                if type(value) is not int or value < 1 or (act[0] != "make" and value != 2):
                    self.assertIs(raised(BadNode, row_behind, HEARD, KNOWN, act, value), value)
        for act in acts[:4]:
            for node in (1, 3, 4, 9):
                self.assertEqual(raised(BadNode, row_behind, HEARD, KNOWN, act, node), node)

    def test_which_comes_first(self):
        good = (HEARD, KNOWN, ("show", 2), 2)
        errors = (BadHeard, BadKnown, BadAct, BadNode)
        wrong = ([1], [2], [3], [4])
        for at in range(4):
            self.assertIs(raised(errors[at], row_behind, *good[:at], *wrong[at:]), wrong[at])


class Errors(unittest.TestCase):
    def test_which_comes_first(self):
        wrong = ([1], [2], [3], [4])
        good = (HEARD, KNOWN, placed(), (1, 1, 0))
        errors = (BadHeard, BadKnown, NoDisc, BadTried)
        for at in range(4):
            self.assertIs(raised(errors[at], due, *good[:at], *wrong[at:]), wrong[at])
            if at < 3:
                self.assertIs(raised(errors[at], left, *good[:at], *wrong[at:3]), wrong[at])

    def test_tried(self):
        for value in ((True,), (-1,), ("1",), (None,), ((1,),), [1], 1, None, {1: 1}, "12", (1, 2, 3, False)):
            self.assertIs(raised(BadTried, due, HEARD, KNOWN, Disc(), value), value)
        for value in ((), (0,), (999999999, 1, 1)):
            due(HEARD, KNOWN, Disc(), value)
