"""What is live, what stands, what clashes."""

import random
import unittest

from allonetree.errors import BadHeard, NoItem
from allonetree.living import clashes, live, stands
from tests import plain_heard
from tests.chances import wild
from tests.values import any_values, raised


def heard_of(*deeds):
    return tuple(sorted(deeds, key=lambda deed: deed[1]))


FOLDER, FILE, LINK = (1, 0), (1, 1), (1, 2)
BORNS = (
    ("born", FOLDER, 1, "folder", None, "notes", ""),
    ("born", FILE, 2, "file", FOLDER, "list", ""),
    ("born", LINK, 3, "link", FOLDER, "to", "list"),
)


def write(dot, stamp, covers=(), item=FILE, text="x"):
    return ("write", dot, stamp, item, text, covers)


def gone(dot, stamp, covers=(), item=FILE):
    return ("gone", dot, stamp, item, covers)


def put(dot, stamp, item, parent=None, name="p"):
    return ("put", dot, stamp, item, parent, name)


class Live(unittest.TestCase):
    def test_borns(self):
        heard = heard_of(*BORNS)
        self.assertEqual(live(heard, FOLDER), (FOLDER,))
        self.assertEqual(live(heard, LINK), (LINK,))
        self.assertEqual(live(heard, FILE), ())

    def test_writes_of_a_file_in_sequence(self):
        heard = heard_of(*BORNS, write((2, 0), 9), write((3, 0), 4), write((4, 0), 4), write((10, 0), 4))
        self.assertEqual(live(heard, FILE), ((3, 0), (4, 0), (10, 0), (2, 0)))

    def test_borns_and_puts_of_a_folder_in_sequence(self):
        heard = heard_of(*BORNS, put((2, 0), 9, FOLDER), put((3, 0), 8, FOLDER), put((3, 1), 9, LINK))
        self.assertEqual(live(heard, FOLDER), (FOLDER, (3, 0), (2, 0)))
        self.assertEqual(live(heard, LINK), (LINK, (3, 1)))
        # What is told first by its stamp comes first, though it be a put.
        early = heard_of(*BORNS, put((2, 0), 1, LINK))
        self.assertEqual(live(early, LINK), ((2, 0), LINK))

    def test_what_is_left_out_lives(self):
        heard = heard_of(*BORNS, put((2, 0), 9, FOLDER, FOLDER))
        self.assertEqual(live(heard, FOLDER), (FOLDER, (2, 0)))
        away = heard_of(*BORNS, put((2, 0), 9, FOLDER, FOLDER), gone((3, 0), 10, (FOLDER,), FOLDER))
        self.assertEqual(live(away, FOLDER), ((2, 0),))
        self.assertIn(FOLDER, stands(away))

    def test_writes_and_gones_cover(self):
        heard = heard_of(*BORNS, write((2, 0), 4), write((3, 0), 5, ((2, 0),)))
        self.assertEqual(live(heard, FILE), ((3, 0),))
        heard = heard_of(*BORNS, write((2, 0), 4), write((3, 0), 5), gone((4, 0), 6, ((2, 0),)))
        self.assertEqual(live(heard, FILE), ((3, 0),))
        heard = heard_of(*BORNS, write((2, 0), 4), write((3, 0), 5), gone((4, 0), 6, ((2, 0), (3, 0))))
        self.assertEqual(live(heard, FILE), ())
        # Whatever their stamps.
        heard = heard_of(*BORNS, write((2, 0), 9), gone((4, 0), 1, ((2, 0),)))
        self.assertEqual(live(heard, FILE), ())
        heard = heard_of(*BORNS, write((2, 0), 9), write((4, 0), 1, ((2, 0),)))
        self.assertEqual(live(heard, FILE), ((4, 0),))

    def test_a_gone_covers_nothing_but_what_it_tells(self):
        heard = heard_of(*BORNS, write((2, 0), 4), gone((3, 0), 5, ()))
        self.assertEqual(live(heard, FILE), ((2, 0),))
        heard = heard_of(*BORNS, write((2, 0), 4), gone((3, 0), 5, (FILE,)))
        self.assertEqual(live(heard, FILE), ((2, 0),))
        heard = heard_of(*BORNS, put((2, 0), 4, FOLDER), gone((3, 0), 5, (FOLDER,), FOLDER))
        self.assertEqual(live(heard, FOLDER), ((2, 0),))

    def test_covered_by_a_deed_of_whatever_item(self):
        for item in (FOLDER, LINK, (2, 0), (9, 9)):
            heard = heard_of(*BORNS, write((2, 0), 4), gone((3, 0), 5, (LINK, (2, 0)), item))
            self.assertEqual((live(heard, FILE), live(heard, LINK)), ((), ()), item)
            heard = heard_of(*BORNS, write((2, 0), 4), write((3, 0), 5, (LINK, (2, 0)), item))
            self.assertEqual((live(heard, FILE), live(heard, LINK)), ((), ()), item)

    def test_covered_by_what_is_covered(self):
        heard = heard_of(*BORNS, write((2, 0), 4), write((3, 0), 5, ((2, 0),)), gone((4, 0), 6, ((3, 0),)))
        self.assertEqual(live(heard, FILE), ())

    def test_one_that_covers_itself(self):
        heard = heard_of(*BORNS, write((2, 0), 4, ((2, 0),)))
        self.assertEqual(live(heard, FILE), ((2, 0),))
        self.assertEqual(stands(heard), (FOLDER, FILE, LINK))
        heard = heard_of(*BORNS, write((2, 0), 4, ((2, 0), (3, 0))), write((3, 0), 5, ((3, 0),)))
        self.assertEqual(live(heard, FILE), ((2, 0),))
        heard = heard_of(*BORNS, write((2, 0), 4, ((3, 0),)), write((3, 0), 5, ((2, 0),)))
        self.assertEqual(live(heard, FILE), ())

    def test_deeds_that_keep_nothing(self):
        heard = heard_of(*BORNS, write((2, 0), 4, (), FOLDER), write((2, 1), 5, (), LINK), put((2, 2), 6, FILE))
        self.assertEqual(live(heard, FOLDER), (FOLDER,))
        self.assertEqual(live(heard, LINK), (LINK,))
        self.assertEqual(live(heard, FILE), ())
        self.assertEqual(clashes(heard), ())

    def test_covers_of_what_is_not_heard(self):
        heard = heard_of(*BORNS, write((2, 0), 4, ((2, 1), (8, 8))))
        self.assertEqual(live(heard, FILE), ((2, 0),))

    def test_items_that_are_not_born(self):
        heard = heard_of(*BORNS, write((2, 0), 4, (), (5, 5)), put((2, 1), 5, (6, 6)), gone((2, 2), 6, (), (7, 7)))
        for item in ((5, 5), (6, 6), (7, 7), (2, 0), (2, 1), (1, 3), [1, 0], (True, 0), (1, True), (1, 0, 0)):
            self.assertIs(raised(NoItem, live, heard, item), item)
        for value in any_values():
            if value != (1, 0):
                self.assertIs(raised(NoItem, live, heard, value), value)
        self.assertEqual(stands(heard), (FOLDER, LINK))
        self.assertEqual(raised(NoItem, live, (), (1, 0)), (1, 0))

    def test_by_chance(self):
        for seed in range(250):
            chance = random.Random(seed)
            heard = wild(chance, chance.randint(1, 4), chance.randint(1, 24))
            for item in plain_heard.born(heard):
                self.assertEqual(live(heard, item), plain_heard.live(heard, item))


class Stands(unittest.TestCase):
    def test_files_stand_by_writes(self):
        self.assertEqual(stands(()), ())
        self.assertEqual(stands(heard_of(BORNS[0], BORNS[1])), (FOLDER,))
        self.assertEqual(stands(heard_of(BORNS[0], BORNS[1], write((2, 0), 4))), (FOLDER, FILE))

    def test_folders_that_are_gone_stand_for_what_stands_in_them(self):
        away = gone((3, 0), 9, (FOLDER,), FOLDER)
        self.assertEqual(stands(heard_of(BORNS[0], BORNS[1], away)), ())
        self.assertEqual(stands(heard_of(BORNS[0], BORNS[1], away, write((2, 0), 4))), (FOLDER, FILE))
        self.assertEqual(stands(heard_of(*BORNS, away)), (FOLDER, LINK))
        both = gone((3, 0), 9, (FOLDER, LINK), FOLDER)
        self.assertEqual(stands(heard_of(*BORNS, both)), ())

    def test_all_above_stand(self):
        borns = [("born", (1, at), at + 1, "folder", (1, at - 1) if at else None, "f", "") for at in range(6)]
        away = gone((2, 0), 20, tuple((1, at) for at in range(6)), FOLDER)
        self.assertEqual(stands(heard_of(*borns, away)), ())
        deeds = borns + [away, ("born", (3, 0), 7, "link", (1, 3), "l", "")]
        self.assertEqual(stands(heard_of(*deeds)), ((1, 0), (1, 1), (1, 2), (1, 3), (3, 0)))
        moved = deeds + [put((3, 1), 21, (3, 0), (1, 1))]
        self.assertEqual(stands(heard_of(*moved)), ((1, 0), (1, 1), (3, 0)))
        out = deeds + [put((3, 1), 21, (3, 0), None)]
        self.assertEqual(stands(heard_of(*out)), ((3, 0),))

    def test_above_is_as_places_tells_it(self):
        # The link was born in the folder, which is gone, and put into the root since.
        away = gone((3, 0), 9, (FOLDER,), FOLDER)
        self.assertEqual(stands(heard_of(*BORNS, away, put((2, 0), 5, LINK, None))), (LINK,))
        # A put that is left out does not count: it stands in the folder still.
        self.assertEqual(stands(heard_of(*BORNS, away, put((2, 0), 5, LINK, (9, 9)))), (FOLDER, LINK))

    def test_a_put_alone_keeps_a_folder_or_link(self):
        for item in (FOLDER, LINK):
            away = gone((3, 0), 9, (FOLDER, LINK), item)
            self.assertEqual(stands(heard_of(*BORNS, away, put((2, 0), 5, item, None))), (item,))
            more = gone((3, 0), 9, ((1, 0), (1, 2), (2, 0)), item)
            self.assertEqual(stands(heard_of(*BORNS, more, put((2, 0), 5, item, None))), ())

    def test_what_is_not_placed_stands_too(self):
        deeds = (
            ("born", (1, 0), 1, "file", (9, 9), "x", ""),
            ("born", (1, 1), 2, "link", (1, 0), "y", ""),
            ("born", (1, 2), 3, "folder", (1, 2), "z", ""),
            write((1, 3), 4, (), (1, 0)),
        )
        self.assertEqual(stands(deeds), ((1, 0), (1, 1), (1, 2)))

    def test_the_parent_of_what_is_not_placed_does_not_stand_for_it(self):
        # The file is born ahead of its folder, by stamps: it is left out.
        deeds = heard_of(
            ("born", (1, 0), 5, "folder", None, "f", ""),
            ("born", (2, 0), 4, "file", (1, 0), "x", ""),
            write((2, 1), 6, ((1, 0),), (2, 0)),
        )
        self.assertEqual(stands(deeds), ((2, 0),))

    def test_ascending(self):
        borns = [("born", (life, 0), 20 - life, "link", None, "l", "") for life in (2, 10, 9, 1)]
        self.assertEqual(stands(heard_of(*borns)), ((1, 0), (2, 0), (9, 0), (10, 0)))

    def test_by_chance(self):
        for seed in range(250):
            chance = random.Random(seed)
            heard = wild(chance, chance.randint(1, 4), chance.randint(1, 24))
            self.assertEqual(stands(heard), plain_heard.stands(heard))


class Clashes(unittest.TestCase):
    def test_two_and_more_writes(self):
        other = ("born", (1, 3), 4, "file", None, "other", "")
        deeds = BORNS + (other, write((2, 0), 9), write((3, 0), 5))
        self.assertEqual(clashes(heard_of(*deeds)), ((FILE, ((3, 0), (2, 0))),))
        deeds = deeds + (write((4, 0), 9), write((5, 0), 6, (), (1, 3)))
        self.assertEqual(clashes(heard_of(*deeds)), ((FILE, ((3, 0), (2, 0), (4, 0))),))
        deeds = deeds + (write((6, 0), 5, (), (1, 3)),)
        self.assertEqual(
            clashes(heard_of(*deeds)), ((FILE, ((3, 0), (2, 0), (4, 0))), ((1, 3), ((6, 0), (5, 0))))
        )
        deeds = deeds + (gone((7, 0), 10, ((2, 0), (3, 0), (6, 0))),)
        self.assertEqual(clashes(heard_of(*deeds)), ())

    def test_no_clashes(self):
        self.assertEqual(clashes(()), ())
        self.assertEqual(clashes(heard_of(*BORNS, write((2, 0), 4))), ())
        self.assertEqual(clashes(heard_of(*BORNS, write((2, 0), 4), write((3, 0), 5, ((2, 0),)))), ())
        # Puts of folders and links are live together, but no clash.
        self.assertEqual(clashes(heard_of(*BORNS, put((2, 0), 4, LINK), put((3, 0), 4, FOLDER))), ())

    def test_files_that_are_not_placed_clash_too(self):
        deeds = (("born", (1, 0), 1, "file", (9, 9), "x", ""), write((1, 1), 2, (), (1, 0)), write((2, 0), 2, (), (1, 0)))
        self.assertEqual(clashes(deeds), (((1, 0), ((1, 1), (2, 0))),))

    def test_by_chance(self):
        met = 0
        for seed in range(250):
            chance = random.Random(seed)
            heard = wild(chance, chance.randint(1, 4), chance.randint(1, 24))
            self.assertEqual(clashes(heard), plain_heard.clashes(heard))
            met += len(clashes(heard))
        self.assertGreater(met, 40)


class Errors(unittest.TestCase):
    def test_heard_comes_first(self):
        for value in (None, list(BORNS), BORNS[1:], (BORNS[0], BORNS[0])):
            self.assertIs(raised(BadHeard, live, value, None), value)
            self.assertIs(raised(BadHeard, live, value, FOLDER), value)
            self.assertIs(raised(BadHeard, stands, value), value)
            self.assertIs(raised(BadHeard, clashes, value), value)
