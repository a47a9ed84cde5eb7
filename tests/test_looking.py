"""Looks at a disc, while programs go on."""

import random
import unittest

from allonetree.discs import Disc
from allonetree.errors import LookOver, NoDisc
from allonetree.looking import Look
from tests import plain_keeping
from tests.hands import program
from tests.values import any_values, raised


def disc_with(*acts):
    disc = Disc()
    for act in acts:
        disc.do(act)
    return disc


def full():
    """Folders, files and links, at names and in the ROOM, and in folders there."""
    disc = disc_with(
        ("folder", "a"), ("folder", "a/b"), ("file", "a/b/x", "one"), ("link", "a/l", "to"), ("file", "y", "two")
    )
    for kind, text in (("folder", ""), ("file", "three"), ("link", "there"), ("folder", ""), ("file", "")):
        disc.make(kind, text)
    disc.shift(9, None, (6, "in"))
    disc.shift(10, None, (9, "z"))
    return disc


def steps(look, many=99):
    """The words of so many steps, or of all that are left."""
    words = []
    while len(words) < many and words[-1:] not in (["whole"], ["moved"]):
        words.append(look.step())
    return words


class Steps(unittest.TestCase):
    def whole(self, disc, many):
        look = Look(disc)
        before = disc.copy()
        self.assertEqual((look.read, look.standing), (0, None))
        for at in range(1, 2 * many):
            self.assertEqual(look.step(), "on")
            self.assertEqual((look.read, look.standing), (at, None))
        self.assertEqual(look.step(), "whole")
        self.assertEqual(look.read, 2 * many)
        self.assertEqual(look.standing, plain_keeping.standing(disc))
        self.assertTrue(disc == before)
        return look.standing

    def test_an_empty_disc(self):
        self.assertEqual(self.whole(Disc(), 2), ())

    def test_files_and_links_at_the_root(self):
        disc = disc_with(("file", "x", "one"), ("link", "l", "to"))
        self.assertEqual(self.whole(disc, 2), ((1, (0, "x"), "file", "one"), (2, (0, "l"), "link", "to")))

    def test_folders_within_one_another(self):
        disc = disc_with(("folder", "a"), ("folder", "a/b"), ("file", "a/b/c", "t"), ("folder", "d"))
        self.assertEqual(
            self.whole(disc, 5),
            ((1, (0, "a"), "folder", ""), (2, (1, "b"), "folder", ""), (3, (2, "c"), "file", "t"), (4, (0, "d"), "folder", "")),
        )

    def test_what_lies_in_the_room(self):
        disc = Disc()
        disc.make("file", "one")
        disc.make("link", "two")
        disc.make("folder", "")
        self.assertEqual(
            self.whole(disc, 3), ((1, None, "file", "one"), (2, None, "link", "two"), (3, None, "folder", ""))
        )

    def test_all_of_it(self):
        found = self.whole(full(), 6)
        self.assertEqual([row[0] for row in found], list(range(1, 11)))
        self.assertEqual([row for row in found if row[0] in (9, 10)], [(9, (6, "in"), "folder", ""), (10, (9, "z"), "file", "")])

    def test_a_folder_within_folders_in_the_room(self):
        disc = Disc()
        for _ in range(3):
            disc.make("folder", "")
        disc.shift(1, None, (2, "a"))
        disc.shift(3, None, (1, "b"))
        self.assertEqual(self.whole(disc, 5), ((1, (2, "a"), "folder", ""), (2, None, "folder", ""), (3, (1, "b"), "folder", "")))

    def test_several_looks_at_one_disc(self):
        disc = full()
        one, other = Look(disc), Look(disc)
        self.assertEqual(one.step(), "on")
        self.assertEqual((one.read, other.read), (1, 0))
        self.assertEqual(steps(other)[-1], "whole")
        self.assertEqual(steps(one)[-1], "whole")
        self.assertEqual(one.standing, other.standing)

    def test_a_standing_stays_as_it_was_read(self):
        disc = full()
        look = Look(disc)
        steps(look)
        before = look.standing
        disc.do(("gone", "a"))
        self.assertEqual(look.standing, before)
        self.assertEqual(look.read, 12)


class Over(unittest.TestCase):
    def test_whole(self):
        look = Look(Disc())
        steps(look)
        for _ in range(2):
            self.assertEqual(raised(LookOver, look.step), "whole")
        self.assertEqual((look.read, look.standing), (4, ()))

    def test_moved(self):
        disc = disc_with(("folder", "a"))
        look = Look(disc)
        look.step()
        disc.do(("gone", "a"))
        self.assertEqual(look.step(), "moved")
        for _ in range(2):
            self.assertEqual(raised(LookOver, look.step), "moved")
        self.assertEqual((look.read, look.standing), (2, None))

    def test_moved_in_the_second_pass(self):
        disc = Disc()
        look = Look(disc)
        steps(look, 3)
        disc.make("file", "")
        self.assertEqual(look.step(), "moved")
        self.assertEqual(raised(LookOver, look.step), "moved")
        self.assertEqual((look.read, look.standing), (4, None))

    def test_what_is_no_disc(self):
        for value in any_values() + [Look(Disc()), Look]:
            if not isinstance(value, Disc):
                self.assertIs(raised(NoDisc, Look, value), value)


class Sequence(unittest.TestCase):
    """Which step reads what: told by a change of this one thing between two steps."""

    def order(self, disc, many, changes):
        """Of each change, done alone, what step of both passes sees it first."""
        told = []
        for change in changes:
            seen = []
            for done in range(many + 1):
                other = disc.copy()
                look = Look(other)
                self.assertEqual(steps(look, done), ["on"] * done)
                change(other)
                words = steps(look)
                if words[-1] == "moved":
                    seen.append((done, look.read))
            # A change ahead of the first reading is not seen; all later ones are, by one step of the second pass.
            first = seen[0][0]
            self.assertEqual(seen, [(done, many + first) for done in range(first, many + 1)])
            told.append(first)
        return told

    def named(self, folder):
        """A name in the folder, f, becomes g, by a program, or by a keeper for a node."""

        def change(disc):
            if isinstance(folder, str):
                disc.do(("move", folder + "f", folder + "g"))
            else:
                inner = [node for node in range(disc.next) if disc.spot(node) and disc.spot(node)[0] == (folder, "f")]
                assert disc.shift(inner[0], (folder, "f"), (folder, "g"))

        return change

    def test_folders_by_paths(self):
        order = ["", "a/", "a-b/", "a.c/", "a/x/", "a/x/y/", "b/", "b/x/"]
        disc = disc_with(*[("folder", path[:-1]) for path in ("b/", "b/x/", "a/", "a-b/", "a/x/", "a/x/y/", "a.c/")])
        for path in order:
            disc.do(("file", path + "f", ""))
        changes = [self.named(path) for path in order]
        self.assertEqual(self.order(disc, 9, changes), [1, 2, 3, 4, 5, 6, 7, 8])

    def test_paths_are_read_as_they_are_spelled(self):
        disc = disc_with(*[act for path in ("a", "B", "_", "9") for act in (("folder", path), ("file", path + "/f", ""))])
        changes = [self.named(path + "/") for path in ("9", "B", "_", "a")]
        self.assertEqual(self.order(disc, 6, changes), [2, 3, 4, 5])

    def test_texts_are_read_with_their_folder(self):
        disc = disc_with(("folder", "a"), ("file", "a/x", ""), ("folder", "b"), ("file", "b/x", ""), ("file", "x", ""))
        changes = [lambda other, path=path: other.do(("file", path, "new")) for path in ("x", "a/x", "b/x")]
        self.assertEqual(self.order(disc, 4, changes), [1, 2, 3])

    def test_the_room_comes_behind_all_folders_at_names(self):
        disc = disc_with(("folder", "a"), ("folder", "z"), ("file", "z/f", ""))
        changes = [self.named("z/"), lambda other: other.make("file", ""), lambda other: other.make("folder", "")]
        self.assertEqual(self.order(disc, 4, changes[:2]), [3, 4])

    def test_the_room_by_nodes_and_then_by_paths(self):
        disc = disc_with(("folder", "at"), ("file", "at/f", ""))
        for _ in range(12):
            disc.make("folder", "")
        for node, place in ((3, (4, "b")), (7, (4, "a")), (8, (7, "z")), (9, (4, "a-b")), (5, (12, "c")), (6, (3, "f"))):
            self.assertTrue(disc.shift(node, None, place))
        order = [1, 4, 7, 9, 8, 3, 6, 10, 11, 12, 5, 13, 14]
        for folder in order[1:]:
            if folder != 3:
                node = disc.make("file", "")
                self.assertTrue(disc.shift(node, None, (folder, "f")))
        changes = [self.named(folder) for folder in order]
        # The root, the folder at a name, the ROOM: then what lies there.
        self.assertEqual(self.order(disc, 15, changes), [2] + list(range(4, 16)))

    def test_a_folder_found_while_others_wait_comes_by_its_path(self):
        # b/a is found behind c, but read ahead of it.
        disc = disc_with(("folder", "c"), ("folder", "b"), ("folder", "b/a"), ("file", "b/a/f", ""), ("file", "c/f", ""))
        self.assertEqual(self.order(disc, 5, [self.named("b/a/"), self.named("c/")]), [3, 4])


class Programs(unittest.TestCase):
    """One deed of a program between two steps."""

    def words(self, disc, done, act):
        look = Look(disc)
        self.assertEqual(steps(look, done), ["on"] * done)
        self.assertIsNone(disc.do(act))
        return steps(look), look

    def test_each_deed_between_any_two_steps(self):
        acts = [("folder", "n"), ("folder", "a/b/n"), ("file", "a/n", ""), ("file", "y", "new"), ("file", "y", "two")]
        acts += [("file", "a/b/x", "one"), ("link", "n", "to"), ("gone", "y"), ("gone", "a/b"), ("gone", "a")]
        acts += [("move", "a/b/x", "y"), ("move", "y", "a/b/x"), ("move", "a/b", "b"), ("move", "a", "z"), ("move", "y", "Y")]
        acts += [("move", "a/l", "a/b/l"), ("move", "a/b", "a/B"), ("move", "A", "a")]
        disc = disc_with(("folder", "a"), ("folder", "a/b"), ("file", "a/b/x", "one"), ("link", "a/l", "to"), ("file", "y", "two"))
        wholes = {}
        for act in acts:
            wholes[act] = []
            for done in range(8):
                other = disc.copy()
                plain = plain_keeping.look(twin := disc.copy())
                for _ in range(done):
                    next(plain)
                twin.do(act)
                words, look = self.words(other, done, act)
                self.assertEqual(words, [one if isinstance(one, str) else one[0] for one in plain])
                if words[-1] == "whole":
                    wholes[act].append(done)
                    # What stood when the first pass was done.
                    self.assertEqual(look.standing, plain_keeping.standing(other if done < 4 else disc))
                self.assertEqual(look.standing is not None, words[-1] == "whole")
                self.assertTrue(other == twin)
        # The root is read by the first step, a by the second, a/b by the third, the ROOM by the fourth.
        self.assertEqual(wholes[("folder", "n")], [0, 5, 6, 7])
        self.assertEqual(wholes[("folder", "a/b/n")], [0, 1, 2, 7])
        self.assertEqual(wholes[("file", "a/n", "")], [0, 1, 6, 7])
        self.assertEqual(wholes[("file", "y", "two")], [0, 5, 6, 7])
        self.assertEqual(wholes[("file", "a/b/x", "one")], [0, 1, 2, 7])
        self.assertEqual(wholes[("move", "a/l", "a/b/l")], [0, 1, 7])
        self.assertEqual(wholes[("move", "a/b", "a/B")], [0, 1, 6, 7])
        self.assertEqual(wholes[("move", "a/b", "b")], [0, 6, 7])
        self.assertEqual(wholes[("move", "A", "a")], list(range(8)))

    def test_a_folder_that_vanishes_ahead_of_its_reading(self):
        disc = disc_with(("folder", "a"), ("folder", "b"))
        self.assertEqual(self.words(disc, 2, ("gone", "b"))[0], ["moved"])
        disc = disc_with(("folder", "a"), ("folder", "b"))
        self.assertEqual(self.words(disc, 1, ("gone", "b"))[0], ["on", "moved"])
        disc = disc_with(("folder", "a"), ("folder", "a/b"))
        self.assertEqual(self.words(disc, 2, ("gone", "a"))[0], ["moved"])

    def test_a_folder_that_vanishes_in_the_second_pass(self):
        disc = disc_with(("folder", "a"), ("folder", "b"))
        self.assertEqual(self.words(disc, 5, ("gone", "b"))[0], ["on", "moved"])

    def test_a_folder_that_is_elsewhere_is_read_all_the_same(self):
        disc = disc_with(("folder", "a"), ("folder", "b"), ("file", "b/x", "t"))
        words, look = self.words(disc, 1, ("move", "b", "a/c"))
        # The root, a, a/c (found in a), b as it was found at the root, the ROOM; then the root has moved on.
        self.assertEqual(words, ["on", "on", "on", "on", "moved"])
        self.assertEqual(look.read, 6)

    def test_what_is_met_at_two_places_is_never_told(self):
        disc = disc_with(("folder", "a"), ("file", "y", "t"))
        self.assertEqual(self.words(disc, 1, ("move", "y", "a/y"))[0], ["on", "on", "moved"])

    def test_a_folder_met_at_two_places_is_read_twice(self):
        disc = disc_with(("folder", "a"), ("folder", "c"), ("folder", "c/d"), ("file", "c/d/x", ""))
        # c is found at the root, and again in a; c/d by both of them.
        words, look = self.words(disc, 1, ("move", "c", "a/c"))
        self.assertEqual(words, ["on", "on", "on", "on", "on", "on", "moved"])

    def test_moved_away_and_back(self):
        disc = disc_with(("folder", "a"), ("file", "y", "t"))
        look = Look(disc)
        steps(look, 3)
        for act in (("move", "y", "z"), ("move", "z", "y")):
            disc.do(act)
        self.assertEqual(steps(look), ["moved"])
        self.assertEqual(disc.rows(), (("a", "folder", ""), ("y", "file", "t")))

    def test_a_file_made_anew_alike(self):
        disc = disc_with(("file", "y", "t"))
        look = Look(disc)
        steps(look, 2)
        for act in (("gone", "y"), ("file", "y", "t")):
            disc.do(act)
        self.assertEqual(steps(look), ["moved"])

    def test_what_comes_and_goes_ahead_of_the_reading(self):
        disc = disc_with(("folder", "a"))
        look = Look(disc)
        steps(look, 1)
        for act in (("file", "a/x", ""), ("gone", "a/x")):
            disc.do(act)
        self.assertEqual(steps(look)[-1], "whole")
        self.assertEqual(look.standing, ((1, (0, "a"), "folder", ""),))

    def test_by_chance(self):
        met = {"whole": 0, "moved": 0}
        for seed in range(400):
            chance = random.Random(seed)
            disc = Disc()
            for _ in range(chance.randint(0, 25)):
                program(chance, disc)
            for kind in ("file", "folder", "folder"):
                if chance.random() < 0.3:
                    disc.make(kind, "")
            look, plain = Look(disc), plain_keeping.look(disc)
            often = chance.choice((0.05, 0.2, 0.6))
            for told in plain:
                word = look.step()
                if isinstance(told, str):
                    self.assertEqual(word, told)
                else:
                    self.assertEqual((word, look.standing), told)
                if chance.random() < often:
                    program(chance, disc)
            met[word] += 1
        self.assertTrue(met["whole"] > 60 and met["moved"] > 60, met)

    def test_a_standing_is_one_that_was_there(self):
        met = 0
        for seed in range(300):
            chance = random.Random(seed)
            disc = Disc()
            for _ in range(chance.randint(0, 15)):
                program(chance, disc)
            if chance.random() < 0.4:
                disc.shift(disc.make("file", ""), None, (disc.make("folder", ""), "in"))
            look, stood = Look(disc), []
            while look.step() == "on":
                stood.append(plain_keeping.standing(disc))
                if chance.random() < 0.15:
                    program(chance, disc)
            if look.standing is not None:
                # The first pass was done behind half of the steps.
                met += stood[0] != plain_keeping.standing(disc)
                self.assertEqual(look.standing, stood[look.read // 2 - 1])
        self.assertGreater(met, 20)


class Keepers(unittest.TestCase):
    """What the words tell of the ROOM, though nothing is made, shifted or dropped there while a look is on."""

    def test_the_room_in_the_second_pass(self):
        disc = full()
        changes = (
            lambda other: other.make("file", ""),
            lambda other: other.drop(7),
            lambda other: other.shift(8, None, (6, "new")),
        )
        for change in changes:
            other = disc.copy()
            look = Look(other)
            self.assertEqual(steps(look, 6), ["on"] * 6)
            change(other)
            # The root, a, a/b, the ROOM.
            self.assertEqual(steps(look), ["on", "on", "on", "moved"])

    def test_what_is_shifted_out_of_a_folder_in_the_room(self):
        disc = full()
        look = Look(disc)
        steps(look, 6)
        disc.shift(10, (9, "z"), (9, "other"))
        self.assertEqual(steps(look), ["on"] * 5 + ["moved"])
