"""The picture: what a folder has to be."""

import random
import unittest

from allonetree.errors import BadHeard
from allonetree.hearing import hears, joined
from allonetree.pictures import entries, picture
from tests import plain_heard
from tests.chances import part, shuffled, wild
from tests.values import raised


def heard_of(*deeds):
    return tuple(sorted(deeds, key=lambda deed: deed[1]))


def link(life, name, parent=None, number=0, stamp=1, text="t"):
    return ("born", (life, number), stamp, "link", parent, name, text)


def folder(life, name, parent=None, number=0, stamp=1):
    return ("born", (life, number), stamp, "folder", parent, name, "")


def file(life, name, parent=None, number=0, stamp=1):
    return ("born", (life, number), stamp, "file", parent, name, "")


def write(life, item, text, number=0, stamp=50, covers=()):
    return ("write", (life, number), stamp, item, text, covers)


def names(heard):
    return [entry[2] for entry in entries(heard)]


class Entries(unittest.TestCase):
    def test_none(self):
        self.assertEqual((entries(()), picture(())), ((), ()))

    def test_one_of_each_kind(self):
        heard = heard_of(folder(1, "f"), link(2, "l", (1, 0), 0, 2, "a b"), file(3, "x", (1, 0), 0, 2), write(4, (3, 0), "hi"))
        self.assertEqual(
            entries(heard),
            (
                (("item", (1, 0)), None, "f", "folder", ""),
                (("item", (2, 0)), (1, 0), "l", "link", "a b"),
                (("item", (3, 0)), (1, 0), "x", "file", "hi"),
            ),
        )
        self.assertEqual(picture(heard), (("f", "folder", ""), ("f/l", "link", "a b"), ("f/x", "file", "hi")))

    def test_what_does_not_stand_or_is_not_placed_is_not_in_it(self):
        heard = heard_of(file(1, "x"), link(2, "y", (9, 9)), file(3, "z", (9, 9)), write(4, (3, 0), "t"))
        self.assertEqual(entries(heard), ())
        self.assertEqual(picture(heard), ())
        shut = heard_of(folder(1, "f"), ("gone", (2, 0), 5, (1, 0), ((1, 0),)))
        self.assertEqual((entries(shut), picture(shut)), ((), ()))

    def test_nothing_stands_beside_a_file_that_is_not_placed(self):
        heard = heard_of(file(1, "x", (9, 9)), write(2, (1, 0), "a"), write(3, (1, 0), "b"))
        self.assertEqual(entries(heard), ())

    def test_the_last_write_in_sequence_is_in_place(self):
        heard = heard_of(file(1, "x"), write(2, (1, 0), "two", 0, 9), write(3, (1, 0), "three", 0, 7))
        self.assertEqual(
            entries(heard),
            (
                (("item", (1, 0)), None, "x", "file", "two"),
                (("beside", (1, 0), (3, 0)), None, "x.clash1", "file", "three"),
            ),
        )
        heard = heard_of(file(1, "x"), write(2, (1, 0), "two", 0, 9), write(3, (1, 0), "three", 0, 9))
        self.assertEqual(picture(heard), (("x", "file", "three"), ("x.clash1", "file", "two")))

    def test_several_writes_beside_ascend_by_dots(self):
        # In sequence they stand otherwise: 10, 2, 9, 3.
        stamps = {2: 8, 3: 9, 9: 8, 10: 7}
        heard = heard_of(file(1, "x"), *[write(life, (1, 0), str(life), 0, stamps[life]) for life in stamps])
        self.assertEqual(
            [(entry[0], entry[2], entry[4]) for entry in entries(heard)],
            [
                (("item", (1, 0)), "x", "3"),
                (("beside", (1, 0), (2, 0)), "x.clash1", "2"),
                (("beside", (1, 0), (9, 0)), "x.clash2", "9"),
                (("beside", (1, 0), (10, 0)), "x.clash3", "10"),
            ],
        )

    def test_items_ahead_of_those_beside(self):
        heard = heard_of(
            file(1, "x"), write(2, (1, 0), "a"), write(3, (1, 0), "b"), file(4, "y"), write(4, (4, 0), "c", 1), link(5, "z")
        )
        self.assertEqual(
            [entry[0] for entry in entries(heard)],
            [("item", (1, 0)), ("item", (4, 0)), ("item", (5, 0)), ("beside", (1, 0), (2, 0))],
        )

    def test_beside_ascends_by_items_first(self):
        heard = heard_of(
            file(1, "x"), file(2, "y"), write(3, (2, 0), "a"), write(4, (2, 0), "b"), write(5, (1, 0), "c"), write(6, (1, 0), "d")
        )
        self.assertEqual(
            [entry[0] for entry in entries(heard)[2:]], [("beside", (1, 0), (5, 0)), ("beside", (2, 0), (3, 0))]
        )

    def test_beside_goes_where_its_file_is_put(self):
        heard = heard_of(
            folder(1, "f"),
            file(2, "x"),
            write(3, (2, 0), "a"),
            write(4, (2, 0), "b"),
            ("put", (5, 0), 60, (2, 0), (1, 0), "new"),
        )
        self.assertEqual(picture(heard), (("f", "folder", ""), ("f/new", "file", "b"), ("f/new.clash1", "file", "a")))

    def test_a_folder_taken_away_stands_for_what_stands_in_it(self):
        away = ("gone", (9, 0), 99, (1, 0), ((1, 0), (2, 0)))
        deeds = (folder(1, "f"), folder(2, "g", (1, 0), 0, 2), away)
        self.assertEqual(picture(heard_of(*deeds)), ())
        more = deeds + (link(3, "l", (2, 0), 0, 3),)
        self.assertEqual(picture(heard_of(*more)), (("f", "folder", ""), ("f/g", "folder", ""), ("f/g/l", "link", "t")))


class Names(unittest.TestCase):
    def named(self, deeds, told):
        """What each ITEM is called, by its LIFE; those beside by the LIFE of their write."""
        found = entries(heard_of(*deeds))
        self.assertEqual({entry[0][-1][0]: entry[2] for entry in found}, told)
        in_folders = [(entry[1], entry[2].lower()) for entry in found]
        self.assertEqual(len(in_folders), len(set(in_folders)))

    def test_two_and_three_and_more(self):
        self.named([link(1, "a"), link(2, "A")], {1: "a", 2: "A.also1"})
        self.named([link(1, "A"), link(2, "a"), link(3, "a")], {1: "A", 2: "a.also1", 3: "a.also2"})
        self.named(
            [link(life, "aB" if life == 2 else "Ab") for life in range(1, 6)],
            {1: "Ab", 2: "aB.also1", 3: "Ab.also2", 4: "Ab.also3", 5: "Ab.also4"},
        )
        many = [link(life, "n") for life in range(1, 13)]
        self.assertEqual(names(heard_of(*many)), ["n"] + [f"n.also{number}" for number in range(1, 12)])

    def test_items_ascend_as_numbers_and_stamps_do_not_count(self):
        self.named([link(9, "a", None, 0, 9), link(10, "a", None, 0, 1)], {9: "a", 10: "a.also1"})

    def test_names_of_one_folder_alone(self):
        deeds = [folder(1, "f"), link(2, "a"), link(3, "a", (1, 0), 0, 2), link(4, "f", (1, 0), 0, 2)]
        self.named(deeds, {1: "f", 2: "a", 3: "a", 4: "f"})

    def test_folders_with_alike_names(self):
        deeds = [folder(1, "f"), folder(2, "F"), link(3, "a", (1, 0), 0, 2), link(4, "a", (2, 0), 0, 2)]
        self.assertEqual(
            picture(heard_of(*deeds)),
            (("F.also1", "folder", ""), ("F.also1/a", "link", "t"), ("f", "folder", ""), ("f/a", "link", "t")),
        )

    def test_made_names_that_are_told_already(self):
        self.named([link(1, "a"), link(2, "a"), link(3, "A.ALSO1")], {1: "a", 2: "a.also2", 3: "A.ALSO1"})
        self.named([link(1, "a.also1"), link(2, "a"), link(3, "a")], {1: "a.also1", 2: "a", 3: "a.also2"})
        self.named(
            [link(1, "a"), link(2, "a"), link(3, "a.also1"), link(4, "a.also2"), link(5, "a")],
            {1: "a", 2: "a.also3", 3: "a.also1", 4: "a.also2", 5: "a.also4"},
        )

    def test_a_gap_among_told_names_is_used(self):
        self.named(
            [link(1, "a"), link(2, "a"), link(3, "a"), link(4, "a.also2")], {1: "a", 2: "a.also1", 3: "a.also3", 4: "a.also2"}
        )

    def test_made_names_that_are_alike_among_themselves(self):
        self.named([link(1, "a"), link(2, "a"), link(3, "A")], {1: "a", 2: "a.also1", 3: "A.also2"})
        # Two are called a.also1, and two a: told names come ahead of made ones.
        self.named(
            [link(1, "a"), link(2, "a"), link(3, "a.also1"), link(4, "a.also1")],
            {1: "a", 2: "a.also2", 3: "a.also1", 4: "a.also1.also1"},
        )

    def test_clashes_behind_the_items(self):
        deeds = [file(1, "a"), write(5, (1, 0), "x"), write(6, (1, 0), "y")]
        self.named(deeds + [link(2, "a.clash1")], {1: "a", 2: "a.clash1", 5: "a.clash2"})
        self.named(deeds + [link(2, "A.CLASH1"), link(3, "a.clash2")], {1: "a", 2: "A.CLASH1", 3: "a.clash2", 5: "a.clash3"})
        self.named(deeds + [link(2, "A")], {1: "a", 2: "A.also1", 5: "a.clash1"})

    def test_clashes_by_the_name_that_places_tells(self):
        # The file itself is called a.also1.
        deeds = [link(1, "a"), file(2, "A"), write(5, (2, 0), "x"), write(6, (2, 0), "y")]
        self.named(deeds, {1: "a", 2: "A.also1", 5: "A.clash1"})

    def test_clashes_of_several_files(self):
        deeds = [file(1, "a"), file(2, "A")]
        deeds += [write(life, (1, 0), "x", 0, life) for life in (5, 8, 9)]
        deeds += [write(life, (2, 0), "x", 0, life) for life in (4, 6, 7)]
        self.named(deeds, {1: "a", 2: "A.also1", 5: "a.clash1", 8: "a.clash2", 4: "A.clash3", 6: "A.clash4"})

    def test_made_names_may_be_long(self):
        deeds = [link(1, "n" * 40), link(2, "n" * 40), file(3, "m" * 40), write(5, (3, 0), "x"), write(6, (3, 0), "y")]
        self.named(deeds, {1: "n" * 40, 2: "n" * 40 + ".also1", 3: "m" * 40, 5: "m" * 40 + ".clash1"})

    def test_what_does_not_stand_takes_no_name(self):
        self.named([file(1, "a"), link(2, "a")], {2: "a"})
        self.named([link(1, "a"), link(2, "a"), ("gone", (3, 0), 9, (1, 0), ((1, 0),))], {2: "a"})

    def test_names_hang_on_what_was_put_last(self):
        deeds = [link(1, "a"), link(2, "a"), ("put", (3, 0), 9, (1, 0), None, "b")]
        self.named(deeds, {1: "b", 2: "a"})


class Pictures(unittest.TestCase):
    def test_paths_ascend(self):
        deeds = [folder(1, "a"), link(2, "a-b"), link(3, "x", (1, 0), 0, 2), link(4, "a.b"), link(5, "a0"), link(6, "B")]
        self.assertEqual(
            [row[0] for row in picture(heard_of(*deeds))], ["B", "a", "a-b", "a.b", "a/x", "a0"]
        )

    def test_deep_folders(self):
        deeds = [folder(1, "f", (1, at - 1) if at else None, at, at + 1) for at in range(30)]
        rows = picture(tuple(deeds))
        self.assertEqual(len(rows), 30)
        self.assertEqual(rows[-1][0], "/".join(["f"] * 30))

    def test_by_chance(self):
        met = {"beside": 0, ".also": 0, ".clash": 0}
        for seed in range(400):
            chance = random.Random(seed)
            heard = wild(chance, chance.randint(1, 4), chance.randint(1, 26))
            found, rows = entries(heard), picture(heard)
            self.assertEqual(found, plain_heard.entries(heard))
            self.assertEqual(rows, plain_heard.picture(heard))
            self.assertEqual(len(rows), len(found))
            self.is_tree(rows)
            for entry in found:
                for word in met:
                    met[word] += (word in entry[2]) + (word == entry[0][0])
        self.assertTrue(all(many > 20 for many in met.values()), met)

    def is_tree(self, rows):
        kinds = {path: kind for path, kind, _ in rows}
        self.assertEqual(len({path.lower() for path in kinds}), len(kinds))
        self.assertEqual(rows, tuple(sorted(rows)))
        for path in kinds:
            above = path.rpartition("/")[0]
            self.assertTrue(above == "" or kinds[above] == "folder")

    def test_one_picture_in_whatever_sequence(self):
        for seed in range(100):
            chance = random.Random(seed)
            heard = wild(chance, chance.randint(2, 4), 18)
            told = (entries(heard), picture(heard))
            for _ in range(3):
                found = ()
                for deed in shuffled(chance, heard):
                    found = hears(found, deed)
                self.assertEqual((entries(found), picture(found)), told)
                one = part(chance, heard)
                found = joined(joined(one, part(chance, heard)), heard)
                self.assertEqual((entries(found), picture(found)), told)


class Errors(unittest.TestCase):
    def test_what_is_no_set(self):
        for value in (None, [link(1, "a")], (link(1, "a"), link(1, "a")), (link(1, "a", None, 1),)):
            self.assertIs(raised(BadHeard, entries, value), value)
            self.assertIs(raised(BadHeard, picture, value), value)
