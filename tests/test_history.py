"""What was there once: versions, paths, the past, and how it is brought back."""

import random
import unittest

from allonetree.discs import Disc
from allonetree.errors import BadHeard, BadStamp, NoItem, NoWrite
from allonetree.history import past, path_of, restored, versions
from allonetree.pictures import picture
from tests import plain_forms, plain_heard
from tests.chances import sensible, wild
from tests.hands import Hand
from tests.values import any_values, bends, raised
from tests.weaving import Weaver

A, F, LINK, EMPTY = (1, 0), (1, 1), (1, 5), (1, 6)
HEARD = (
    ("born", A, 1, "folder", None, "a", ""),
    ("born", F, 2, "file", A, "x", ""),
    ("write", (1, 2), 3, F, "one", ()),
    ("write", (1, 3), 4, F, "two", ((1, 2),)),
    ("write", (1, 4), 5, F, "three", ()),
    ("born", LINK, 6, "link", A, "l", "to"),
    ("born", EMPTY, 7, "file", A, "e", ""),
    ("write", (2, 0), 4, F, "four", ((1, 2),)),
)


def with_deeds(*deeds):
    """HEARD, with these as LIFE 3 tells them: what is behind the stamp of each."""
    more = tuple((deed[0], (3, at), 10 + at) + deed[1:] for at, deed in enumerate(deeds))
    return HEARD + more


def gone(item, *covers):
    return ("gone", item, covers)


# All writes of x are let go; then the folder, too.
NO_FILE = gone(F, (1, 3), (1, 4), (2, 0))
NO_LINK, NO_FOLDER = gone(LINK, LINK), gone(A, A)


# A second writing.


def plain_versions(heard, item):
    found = []
    live = plain_heard.live(heard, item)
    for deed in plain_heard.sequence(heard):
        if deed[0] == "write" and deed[3] == item:
            state = "covered" if deed[1] not in live else "shown" if deed[1] == live[-1] else "beside"
            found.append((deed[1], deed[4], state))
    return tuple(found)


def plain_path(heard, item):
    if item is None:
        return ""
    for key, parent, name, _, _ in plain_heard.entries(heard):
        if key == ("item", item):
            above = plain_path(heard, parent)
            return above + "/" + name if above else name
    return None


def plain_restored(heard, dot):
    placed = {row[0]: row[1:] for row in plain_heard.places(heard)}
    births = plain_heard.born(heard)
    writes = [deed for deed in heard if deed[:2] == ("write", dot) and deed[3] in placed and births[deed[3]][3] == "file"]
    if writes == []:
        return "no write"
    item, text = writes[0][3:5]
    if plain_heard.live(heard, item)[-1:] == (dot,):
        return None
    path = plain_path(heard, item)
    if path is None:
        folder, name = placed[item]
        while plain_path(heard, folder) is None:
            folder = placed[folder][0]
        above = plain_path(heard, folder)
        names = [row[0].lower() for row in plain_heard.picture(heard)]
        number = 0
        path = above + "/" + name if above else name
        while path.lower() in names:
            number += 1
            path = "%s.back%d" % (above + "/" + name if above else name, number)
    return ("file", path, text)


class Versions(unittest.TestCase):
    def test_states(self):
        self.assertEqual(
            versions(HEARD, F),
            (((1, 2), "one", "covered"), ((1, 3), "two", "beside"), ((2, 0), "four", "beside"), ((1, 4), "three", "shown")),
        )
        self.assertEqual(versions(HEARD, EMPTY), ())
        self.assertEqual([row[2] for row in versions(with_deeds(NO_FILE), F)], ["covered"] * 4)
        self.assertEqual([row[2] for row in versions(with_deeds(gone(F, (1, 4))), F)], ["covered", "beside", "shown", "covered"])

    def test_one_write(self):
        self.assertEqual(versions(HEARD[:3], F), (((1, 2), "one", "shown"),))

    def test_a_file_that_stands_nowhere(self):
        # Its folder is gone with it; or it never was placed.
        self.assertEqual(versions(with_deeds(NO_FILE, NO_LINK, NO_FOLDER), F)[-1], ((1, 4), "three", "covered"))
        lost = (("born", (5, 0), 1, "file", (9, 9), "x", ""), ("write", (5, 1), 2, (5, 0), "t", ()))
        self.assertEqual(versions(lost, (5, 0)), (((5, 1), "t", "shown"),))

    def test_covered_by_writes_and_gones_of_others(self):
        more = with_deeds(("write", EMPTY, "e", ((1, 3),)), gone(LINK, (1, 4)))
        self.assertEqual([row[2] for row in versions(more, F)], ["covered", "covered", "shown", "covered"])
        self.assertEqual(versions(more, EMPTY), (((3, 0), "e", "shown"),))

    def test_what_is_no_file(self):
        for value in any_values() + [A, LINK, (1, 2), (2, 0), (9, 9), None, [1, 1], (True, 1), (1, 1, 1)]:
            self.assertIs(raised(NoItem, versions, HEARD, value), value)
        # Written, but never born.
        self.assertEqual(raised(NoItem, versions, HEARD + (("write", (4, 0), 1, (9, 9), "t", ()),), (9, 9)), (9, 9))

    def test_beside_a_second_writing(self):
        met = {}
        for seed in range(200):
            heard = wild(random.Random(seed), 3, 24) if seed % 2 else sensible(random.Random(seed), 3, 24)
            for item, deed in plain_heard.born(heard).items():
                if deed[3] == "file":
                    found = versions(heard, item)
                    self.assertEqual(found, plain_versions(heard, item))
                    for row in found:
                        met[row[2]] = met.get(row[2], 0) + 1
        self.assertTrue(all(met[word] > 50 for word in ("shown", "beside", "covered")), met)


class Paths(unittest.TestCase):
    def test_what_stands(self):
        self.assertEqual([path_of(HEARD, item) for item in (None, A, F, LINK)], ["", "a", "a/x", "a/l"])
        self.assertEqual(path_of((), None), "")
        moved = with_deeds(("put", F, None, "Y"), ("born", "folder", None, "A", ""))
        self.assertEqual([path_of(moved, F), path_of(moved, (3, 1))], ["Y", "A.also1"])

    def test_what_does_not_stand(self):
        self.assertEqual(path_of(HEARD, EMPTY), None)
        self.assertEqual(path_of(with_deeds(NO_FILE), F), None)
        self.assertEqual(path_of(with_deeds(NO_FILE), A), "a")
        self.assertEqual([path_of(with_deeds(NO_FILE, NO_LINK, NO_FOLDER), item) for item in (A, F, LINK)], [None] * 3)
        # What is not placed stands in no picture.
        lost = (("born", (5, 0), 1, "folder", (9, 9), "x", ""),)
        self.assertEqual(path_of(lost, (5, 0)), None)

    def test_what_is_no_item(self):
        for value in any_values() + [(1, 2), (9, 9), [1, 0], "", ()]:
            if value is not None and value != A:
                self.assertIs(raised(NoItem, path_of, HEARD, value), value)
        self.assertIs(raised(NoItem, path_of, (), A), A)

    def test_beside_a_second_writing(self):
        for seed in range(120):
            heard = wild(random.Random(seed), 3, 24)
            for item in [None] + sorted(plain_heard.born(heard)):
                self.assertEqual(path_of(heard, item), plain_path(heard, item))


class Past(unittest.TestCase):
    def test_each_stamp(self):
        self.assertEqual(past(HEARD, 0), ())
        self.assertEqual(past(HEARD, 1), HEARD[:1])
        self.assertEqual(past(HEARD, 4), HEARD[:4] + HEARD[7:])
        for stamp in (7, 8, 999999999):
            self.assertEqual(past(HEARD, stamp), HEARD)
        self.assertEqual(past((), 5), ())

    def test_each_past_is_a_heard(self):
        for seed in range(60):
            heard = wild(random.Random(seed), 4, 20)
            for stamp in range(25):
                found = past(stamp=stamp, heard=heard)
                self.assertTrue(plain_forms.heard(found))
                self.assertEqual(set(found), {deed for deed in heard if deed[2] <= stamp})
                self.assertEqual(picture(found), plain_heard.picture(found))

    def test_what_is_no_stamp(self):
        for value in any_values() + [-1, "1", 1.5, (1,)]:
            if not plain_forms.whole(value, 0):
                self.assertIs(raised(BadStamp, past, HEARD, value), value)


class Restored(unittest.TestCase):
    def back(self, heard, dot):
        found = restored(heard, dot)
        self.assertEqual(found, plain_restored(heard, dot))
        self.assertEqual(restored(dot=dot, heard=heard), found)
        return found

    def test_in_place_beside_and_covered(self):
        self.assertIs(self.back(HEARD, (1, 4)), None)
        self.assertEqual(self.back(HEARD, (1, 3)), ("file", "a/x", "two"))
        self.assertEqual(self.back(HEARD, (2, 0)), ("file", "a/x", "four"))
        self.assertEqual(self.back(HEARD, (1, 2)), ("file", "a/x", "one"))
        # Where it stands now, and as it is called now.
        moved = with_deeds(("put", F, None, "A"))
        self.assertEqual(self.back(moved, (1, 2)), ("file", "A.also1", "one"))

    def test_a_file_that_is_gone(self):
        heard = with_deeds(NO_FILE)
        for dot, text in (((1, 2), "one"), ((1, 4), "three"), ((2, 0), "four")):
            self.assertEqual(self.back(heard, dot), ("file", "a/x", text))

    def test_its_name_is_taken(self):
        heard = with_deeds(NO_FILE, ("born", "link", A, "X", ""))
        self.assertEqual(self.back(heard, (1, 2)), ("file", "a/x.back1", "one"))
        heard = with_deeds(NO_FILE, ("born", "link", A, "X", ""), ("born", "folder", A, "x.BACK1", ""))
        self.assertEqual(self.back(heard, (1, 2)), ("file", "a/x.back2", "one"))
        names = ["x"] + ["x.back%d" % number for number in (1, 2, 3, 5)]
        heard = with_deeds(NO_FILE, *[("born", "link", A, name, "") for name in names])
        self.assertEqual(self.back(heard, (1, 2)), ("file", "a/x.back4", "one"))
        # A name elsewhere takes nothing; one that a thing only would have, neither.
        heard = with_deeds(NO_FILE, ("born", "link", None, "x", ""), ("born", "file", A, "x", ""))
        self.assertEqual(self.back(heard, (1, 2)), ("file", "a/x", "one"))

    def test_a_name_that_is_made(self):
        # Beside another file stands what is called x.clash1: so was the file that is gone.
        item = (6, 0)
        heard = HEARD + (
            ("born", item, 10, "file", A, "X.CLASH1", ""),
            ("write", (6, 1), 11, item, "mine", ()),
            ("gone", (6, 2), 12, item, ((6, 1),)),
        )
        self.assertEqual(self.back(heard, (6, 1)), ("file", "a/X.CLASH1.back1", "mine"))

    def test_its_folder_is_gone_too(self):
        heard = with_deeds(NO_FILE, NO_LINK, NO_FOLDER)
        self.assertEqual(self.back(heard, (1, 4)), ("file", "x", "three"))
        heard = with_deeds(NO_FILE, NO_LINK, NO_FOLDER, ("born", "folder", None, "x", ""))
        self.assertEqual(self.back(heard, (1, 4)), ("file", "x.back1", "three"))

    def test_the_first_that_stands_of_those_above(self):
        deep = (
            ("born", "folder", None, "one", ""),
            ("born", "folder", (3, 0), "two", ""),
            ("born", "folder", (3, 1), "three", ""),
            ("put", F, (3, 2), "y"),
        )
        self.assertEqual(self.back(with_deeds(*deep, NO_FILE), (1, 2)), ("file", "one/two/three/y", "one"))
        self.assertEqual(self.back(with_deeds(*deep, NO_FILE, gone((3, 2), (3, 2))), (1, 2)), ("file", "one/two/y", "one"))
        both = (NO_FILE, gone((3, 2), (3, 2)), gone((3, 1), (3, 1)))
        self.assertEqual(self.back(with_deeds(*deep, *both), (1, 2)), ("file", "one/y", "one"))
        # Folders are where they stand now.
        self.assertEqual(self.back(with_deeds(*deep, *both, ("put", (3, 0), A, "in")), (1, 2)), ("file", "a/in/y", "one"))
        # One that is gone, within one that was moved.
        moved = (("put", (3, 1), A, "two"), NO_FILE, gone((3, 2), (3, 2)))
        self.assertEqual(self.back(with_deeds(*deep, *moved), (1, 2)), ("file", "a/two/y", "one"))

    def test_what_is_no_write(self):
        for value in any_values() + [A, F, LINK, (1, 7), (2, 1), (9, 9), [1, 2], (1, 2, 3), (True, 2)]:
            self.assertIs(raised(NoWrite, restored, HEARD, value), value)
        # Of what is no file; of what isn't born, or isn't placed.
        odd = HEARD + (
            ("write", (4, 0), 9, A, "t", ()),
            ("write", (4, 1), 10, LINK, "t", ()),
            ("write", (4, 2), 11, (9, 9), "t", ()),
            ("born", (4, 3), 12, "file", (9, 9), "x", ""),
            ("write", (4, 4), 13, (4, 3), "t", ()),
            ("write", (4, 5), 14, (1, 3), "t", ()),
        )
        for number in (0, 1, 2, 4, 5):
            self.assertEqual(raised(NoWrite, restored, odd, (4, number)), (4, number))
            self.assertEqual(plain_restored(odd, (4, number)), "no write")

    def test_what_is_no_set(self):
        for value in any_values() + bends(HEARD[:3]):
            if not plain_forms.heard(value):
                for call, given in ((versions, F), (path_of, F), (path_of, None), (past, 3), (past, -1), (restored, (1, 2))):
                    self.assertIs(raised(BadHeard, call, value, given), value)

    def test_beside_a_second_writing(self):
        met = {"place": 0, "path": 0, "back": 0, "none": 0}
        for seed in range(300):
            chance = random.Random(seed)
            heard = wild(chance, 3, 26) if seed % 2 else sensible(chance, 3, 40)
            for deed in heard:
                if plain_restored(heard, deed[1]) == "no write":
                    self.assertEqual(raised(NoWrite, restored, heard, deed[1]), deed[1])
                    met["none"] += 1
                    continue
                found = self.back(heard, deed[1])
                met["place" if found is None else "back" if ".back" in found[1] else "path"] += 1
        self.assertTrue(all(many > 10 for many in met.values()), met)


class BroughtBack(unittest.TestCase):
    """On a disc that is as the picture the act is never refused, and what is told of it shows the TEXT."""

    def test_by_hand(self):
        met = 0
        for seed in range(60):
            chance = random.Random(seed)
            heard = wild(chance, 3, 26) if seed % 2 else sensible(chance, 3, 30)
            hand = Hand(Disc(), chance.choice((4, 50)))
            for deed in heard:
                hand.note(("heard", deed))
            hand.place()
            self.assertEqual(hand.disc.rows(), picture(heard))
            for deed in heard:
                act = plain_restored(heard, deed[1])
                if act == "no write":
                    continue
                if act is None:
                    self.assertIn((path_of(heard, deed[3]), "file", deed[4]), picture(heard))
                    continue
                twin = Hand(hand.disc.copy(), hand.life + 1)
                twin.disc.do(restored(heard, deed[1]))
                list(twin.tell(twin.look()))
                self.assertIn((act[1], "file", act[2]), picture(twin.heard))
                met += 1
        self.assertGreater(met, 100)

    def test_in_worlds(self):
        met = 0
        for seed in range(25):
            weaver = Weaver(random.Random(seed))
            for _ in weaver.weave(40):
                pass
            weaver.all_run()
            weaver.do("rest")
            world = weaver.world
            heard = world.keeper_of(world.names[0]).heard
            for deed in heard:
                act = restored(heard, deed[1]) if deed[0] == "write" else None
                if act is not None and met < 150:
                    other = world.copy()
                    other.program(other.names[-1], act)
                    other.rest()
                    for name in other.names:
                        self.assertIn((act[1], "file", act[2]), other.rows(name))
                    met += 1
        self.assertGreater(met, 30)
