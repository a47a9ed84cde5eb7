"""What programs do on a disc, and what is refused."""

import unittest

from allonetree.discs import Disc
from allonetree.errors import BadAct, Refused
from tests.values import any_values, nested, raised


def disc_with(*acts):
    disc = Disc()
    for act in acts:
        assert disc.do(act) is None
    return disc


def standing(disc):
    """All that a disc tells."""
    spots = [(node, disc.spot(node)) for node in range(disc.next)]
    return (disc.rows(), disc.nodes(), spots, disc.next, disc.book)


class Case(unittest.TestCase):
    def refuses(self, disc, act, word):
        before, twin = standing(disc), disc.copy()
        self.assertEqual(raised(Refused, disc.do, act), word, act)
        self.assertEqual(standing(disc), before, act)
        self.assertTrue(disc == twin, act)


class Making(Case):
    def test_a_new_disc_is_the_root_alone(self):
        disc = Disc()
        self.assertEqual(disc.rows(), ())
        self.assertEqual(disc.nodes(), (("", 0, "folder", "", 0),))
        self.assertEqual((disc.spot(0), disc.spot(1)), ((None, "folder", "", 0), None))
        self.assertEqual((disc.next, disc.book), (1, ()))

    def test_new_things_stand_where_they_are_told_to(self):
        disc = disc_with(("folder", "a"), ("file", "a/b", "text"), ("link", "a/c", "to ~"), ("folder", "a/d"))
        self.assertEqual(
            disc.rows(), (("a", "folder", ""), ("a/b", "file", "text"), ("a/c", "link", "to ~"), ("a/d", "folder", ""))
        )
        self.assertEqual(disc.spot(1), ((0, "a"), "folder", "", 3))
        self.assertEqual(disc.spot(2), ((1, "b"), "file", "text", 0))
        self.assertEqual(disc.spot(3), ((1, "c"), "link", "to ~", 0))
        self.assertEqual(disc.spot(4), ((1, "d"), "folder", "", 0))
        self.assertEqual(disc.next, 5)

    def test_folders_ahead_are_found_by_names_that_are_alike_and_keep_theirs(self):
        disc = disc_with(("folder", "Aa"), ("folder", "aA/Bb"), ("file", "AA/bB/c", "x"), ("link", "aa/BB/D", "y"))
        self.assertEqual([row[0] for row in disc.rows()], ["Aa", "Aa/Bb", "Aa/Bb/D", "Aa/Bb/c"])

    def test_names_of_all_signs(self):
        names = ("abcdefghijklmnopqrstuvwxyz", "0123456789", "...", "-", "_", "..a", ".b", "c.", "--", "A.B-C_d")
        disc = disc_with(*[("file", name, name) for name in names])
        self.assertEqual(disc.rows(), tuple(sorted([(name, "file", name) for name in names])))
        capitals = "ABCDEFGHIJKLMNOPQRSTUVWXYZ"
        self.refuses(disc, ("folder", capitals), "stands")

    def test_names_that_differ_by_more_than_capitals_are_not_alike(self):
        disc = disc_with(("folder", "a-b"), ("folder", "a_b"), ("folder", "a.b"), ("folder", "ab"), ("folder", "a.b."))
        self.assertEqual(len(disc.rows()), 5)

    def test_texts_of_none_and_of_400_signs(self):
        disc = disc_with(("file", "a", ""), ("file", "b", " " * 400), ("link", "c", "~" * 400), ("link", "d", ""))
        self.assertEqual([len(row[2]) for row in disc.rows()], [0, 400, 400, 0])
        signs = "".join([chr(sign) for sign in range(32, 127)])
        disc.do(("file", "e", signs))
        self.assertEqual(disc.spot(5)[2], signs)

    def test_rows_and_nodes_ascend_by_whole_paths(self):
        disc = disc_with(
            ("folder", "a"),
            ("file", "a/x", ""),
            ("file", "a.b", ""),
            ("file", "a-b", ""),
            ("file", "ab", ""),
            ("file", "B", ""),
        )
        paths = ["B", "a", "a-b", "a.b", "a/x", "ab"]
        self.assertEqual([row[0] for row in disc.rows()], paths)
        self.assertEqual([row[0] for row in disc.nodes()], [""] + paths)
        self.assertEqual([row[1] for row in disc.nodes()], [0, 6, 1, 4, 3, 2, 5])

    def test_what_is_told_is_tuples(self):
        disc = disc_with(("folder", "a"), ("file", "b", "x"))
        disc.note("line")
        for told in (disc.rows(), disc.nodes(), disc.spot(1), disc.book):
            self.assertIs(type(told), tuple)
        self.assertEqual({type(row) for row in disc.rows() + disc.nodes()}, {tuple})

    def test_what_is_there_is_refused(self):
        disc = disc_with(("folder", "a"), ("file", "b", "x"), ("link", "c", "y"))
        for path in ("a", "A", "b", "B", "c", "C"):
            self.refuses(disc, ("folder", path), "stands")
            self.refuses(disc, ("link", path, "z"), "stands")
        for path in ("a", "A", "c", "C"):
            self.refuses(disc, ("file", path, "z"), "kind")

    def test_folders_that_are_not_there_are_refused(self):
        disc = disc_with(("folder", "a"), ("file", "b", "x"), ("link", "c", "a"))
        for path in ("d/x", "b/x", "c/x", "a/d/x", "a/b/x", "B/x"):
            self.refuses(disc, ("folder", path), "none")
            self.refuses(disc, ("file", path, ""), "none")
            self.refuses(disc, ("link", path, ""), "none")
            self.refuses(disc, ("gone", path), "none")

    def test_the_root_is_refused_ahead_of_all_else(self):
        disc = disc_with(("folder", "a"))
        for act in (("folder", ""), ("file", "", "x"), ("link", "", "x"), ("gone", "")):
            self.refuses(disc, act, "root")
        for act in (("move", "", "a"), ("move", "a", ""), ("move", "", ""), ("move", "", "b/c"), ("move", "b", "")):
            self.refuses(disc, act, "root")


class Writing(Case):
    def test_a_file_that_is_there_gets_the_text_and_keeps_its_name(self):
        disc = disc_with(("folder", "a"), ("file", "a/Notes", "one"), ("file", "A/nOTES", "two"))
        self.assertEqual(disc.rows()[1], ("a/Notes", "file", "two"))
        self.assertEqual((disc.spot(2), disc.next), (((1, "Notes"), "file", "two", 1), 3))

    def test_a_text_that_is_the_same_is_a_moment_too(self):
        disc = disc_with(("file", "a", "one"), ("file", "a", "one"), ("file", "a", "one"))
        self.assertEqual(disc.nodes(), (("", 0, "folder", "", 1), ("a", 1, "file", "one", 2)))


class Gone(Case):
    def test_all_that_is_in_it_vanishes(self):
        disc = disc_with(
            ("folder", "a"),
            ("folder", "a/b"),
            ("file", "a/b/c", "x"),
            ("link", "a/d", ""),
            ("file", "e", ""),
            ("gone", "A"),
        )
        self.assertEqual(disc.rows(), (("e", "file", ""),))
        self.assertEqual([disc.spot(node) for node in range(1, 5)], [None] * 4)
        self.assertEqual((disc.spot(5)[0], disc.spot(0)[3], disc.next), ((0, "e"), 3, 6))

    def test_files_and_links_vanish(self):
        disc = disc_with(("file", "a", "x"), ("link", "b", "a"), ("gone", "b"), ("gone", "A"))
        self.assertEqual((disc.rows(), disc.spot(1), disc.spot(2)), ((), None, None))

    def test_what_is_not_there_is_refused(self):
        disc = disc_with(("folder", "a"), ("file", "a/b", ""))
        for path in ("b", "a/c", "a/b/c", "c/d/e"):
            self.refuses(disc, ("gone", path), "none")

    def test_numbers_never_come_again(self):
        disc = disc_with(("file", "a", ""), ("gone", "a"), ("file", "a", "x"))
        self.assertEqual((disc.spot(1), disc.spot(2), disc.next), (None, ((0, "a"), "file", "x", 0), 3))
        disc.do(("gone", "a"))
        self.assertEqual((disc.next, disc.make("file", ""), disc.drop(3), disc.next), (3, 3, True, 4))
        disc.do(("folder", "a"))
        self.assertEqual(disc.nodes()[1][:2], ("a", 4))


class Moving(Case):
    def test_all_that_is_in_it_moves_along(self):
        disc = disc_with(
            ("folder", "a"), ("folder", "a/b"), ("file", "a/b/c", "x"), ("folder", "d"), ("move", "A/B", "D/e")
        )
        self.assertEqual([row[0] for row in disc.rows()], ["a", "d", "d/e", "d/e/c"])
        self.assertEqual((disc.spot(2)[0], disc.spot(3)[0]), ((4, "e"), (2, "c")))
        self.assertEqual(disc.next, 5)

    def test_each_kind_moves_to_a_name_that_is_free(self):
        disc = disc_with(("folder", "a"), ("file", "b", "x"), ("link", "c", "y"), ("folder", "d"))
        for path, to in (("a", "d/a"), ("b", "D/B2"), ("c", "d/c")):
            self.assertIsNone(disc.do(("move", path, to)))
        self.assertEqual(
            disc.rows(), (("d", "folder", ""), ("d/B2", "file", "x"), ("d/a", "folder", ""), ("d/c", "link", "y"))
        )

    def test_what_is_not_there_is_refused(self):
        disc = disc_with(("folder", "a"), ("file", "b", "x"), ("link", "c", "a"))
        for path, to in (
            ("d", "e"),
            ("a", "d/e"),
            ("a", "b/e"),
            ("b", "c/e"),
            ("a/x", "b"),
            ("d", "a"),
            ("d", "d/e"),
            ("b", "b/x"),
        ):
            self.refuses(disc, ("move", path, to), "none")

    def test_a_folder_into_itself_is_refused(self):
        disc = disc_with(("folder", "a"), ("folder", "a/b"), ("file", "a/b/c", ""), ("folder", "x"))
        for to in ("a/x", "a/b/x", "A/x", "a/B/x", "a/a"):
            self.refuses(disc, ("move", "a", to), "within")
        # within comes ahead of stands, and behind none.
        for to in ("a/b", "A/b", "a/b/c"):
            self.refuses(disc, ("move", "a", to), "within")
        for to in ("a/b/c/d", "a/d/e"):
            self.refuses(disc, ("move", "a", to), "none")

    def test_onto_what_it_lies_in_is_refused(self):
        disc = disc_with(("folder", "a"), ("folder", "a/b"), ("file", "a/b/c", ""))
        for path, to in (("a/b", "a"), ("a/b/c", "a"), ("a/b/c", "A/B")):
            self.refuses(disc, ("move", path, to), "stands")

    def test_onto_something_else_is_refused(self):
        acts = [
            (kind, kind + end) if kind == "folder" else (kind, kind + end, end)
            for kind in ("folder", "file", "link")
            for end in "12"
        ]
        disc = disc_with(*acts)
        for one in ("folder", "file", "link"):
            for other in ("folder", "file", "link"):
                if (one, other) != ("file", "file"):
                    self.refuses(disc, ("move", one + "1", other + "2"), "stands")
                    self.refuses(disc, ("move", one.upper() + "1", other.upper() + "2"), "stands")

    def test_a_file_onto_a_file_takes_its_place_for_good(self):
        disc = disc_with(("folder", "a"), ("file", "a/x", "one"), ("file", "y", "two"), ("move", "Y", "A/X"))
        self.assertEqual(disc.rows(), (("a", "folder", ""), ("a/X", "file", "two")))
        self.assertEqual((disc.spot(2), disc.spot(3)), (None, ((1, "X"), "file", "two", 0)))
        self.assertEqual((disc.spot(0)[3], disc.spot(1)[3], disc.next), (3, 2, 4))

    def test_a_file_onto_a_file_in_one_folder(self):
        disc = disc_with(("file", "x", "one"), ("file", "y", "two"), ("move", "x", "y"))
        self.assertEqual(disc.nodes(), (("", 0, "folder", "", 3), ("y", 1, "file", "one", 0)))
        self.assertIsNone(disc.spot(2))

    def test_onto_itself_with_another_spelling(self):
        disc = disc_with(("folder", "a"), ("file", "a/b", "x"), ("link", "c", ""))
        for path, to in (("a", "A"), ("a/b", "a/B"), ("C", "C")):
            self.assertIsNone(disc.do(("move", path, to)))
        self.assertEqual([row[0] for row in disc.rows()], ["A", "A/B", "C"])
        self.assertEqual(
            [disc.spot(node) for node in range(4)],
            [
                (None, "folder", "", 4),
                ((0, "A"), "folder", "", 2),
                ((1, "B"), "file", "x", 0),
                ((0, "C"), "link", "", 0),
            ],
        )

    def test_onto_itself_spelled_so_already_nothing_becomes_other(self):
        disc = disc_with(("folder", "Aa"), ("file", "aa/Bb", "x"))
        twin = disc.copy()
        for path, to in (("Aa", "Aa"), ("aA", "Aa"), ("aa/bb", "AA/Bb"), ("Aa/Bb", "aa/Bb")):
            self.assertIsNone(disc.do(("move", path, to)))
            self.assertTrue(disc == twin)

    def test_folders_ahead_are_not_spelled_anew(self):
        disc = disc_with(("folder", "aA"), ("folder", "aA/bB"), ("file", "c", ""), ("move", "C", "AA/BB/C"))
        self.assertEqual([row[0] for row in disc.rows()], ["aA", "aA/bB", "aA/bB/C"])

    def test_the_old_name_is_free_again(self):
        disc = disc_with(
            ("folder", "a"), ("move", "a", "b"), ("file", "A", ""), ("move", "b", "c"), ("gone", "a"), ("link", "b", "")
        )
        self.assertEqual([row[:2] for row in disc.rows()], [("b", "link"), ("c", "folder")])

    def test_a_file_that_was_moved_over_leaves_its_number_unused(self):
        disc = disc_with(("file", "a", ""), ("file", "b", ""), ("move", "a", "b"), ("file", "a", ""))
        self.assertEqual([row[:2] for row in disc.nodes()], [("", 0), ("a", 3), ("b", 1)])


class Moments(Case):
    def moments(self, disc):
        return {row[0]: row[4] for row in disc.nodes()}

    def test_of_folders_by_what_is_made_and_gone_in_them(self):
        disc = disc_with(("folder", "a"), ("folder", "a/b"), ("file", "a/b/c", ""), ("link", "a/b/d", ""))
        self.assertEqual(self.moments(disc), {"": 1, "a": 1, "a/b": 2, "a/b/c": 0, "a/b/d": 0})
        disc.do(("file", "a/b/c", "x"))
        self.assertEqual(self.moments(disc), {"": 1, "a": 1, "a/b": 2, "a/b/c": 1, "a/b/d": 0})
        disc.do(("gone", "a/b/d"))
        disc.do(("gone", "a/b"))
        self.assertEqual(self.moments(disc), {"": 1, "a": 2})

    def test_of_folders_by_moves(self):
        disc = disc_with(("folder", "a"), ("folder", "b"), ("file", "a/x", ""))
        self.assertEqual(self.moments(disc), {"": 2, "a": 1, "b": 0, "a/x": 0})
        disc.do(("move", "a/x", "b/y"))
        self.assertEqual(self.moments(disc), {"": 2, "a": 2, "b": 1, "b/y": 0})
        disc.do(("move", "b/y", "b/z"))
        self.assertEqual(self.moments(disc), {"": 2, "a": 2, "b": 2, "b/z": 0})
        disc.do(("move", "b/z", "b/Z"))
        self.assertEqual(self.moments(disc), {"": 2, "a": 2, "b": 3, "b/Z": 0})
        disc.do(("move", "b", "a/b"))
        self.assertEqual(self.moments(disc), {"": 3, "a": 3, "a/b": 3, "a/b/Z": 0})
        disc.do(("move", "A/B/z", "A/B/Z"))
        self.assertEqual(self.moments(disc), {"": 3, "a": 3, "a/b": 3, "a/b/Z": 0})

    def test_of_a_file_go_along_with_it(self):
        disc = disc_with(
            ("file", "a", ""),
            ("file", "a", "x"),
            ("file", "b", ""),
            ("file", "b", "y"),
            ("file", "b", "y"),
            ("move", "b", "a"),
        )
        self.assertEqual(self.moments(disc), {"": 3, "a": 2})
        disc.do(("file", "A", "z"))
        self.assertEqual(disc.nodes()[1], ("a", 2, "file", "z", 3))

    def test_of_a_file_that_is_made_anew_begin_anew(self):
        disc = disc_with(("file", "a", ""), ("file", "a", "x"), ("gone", "a"), ("file", "a", "x"))
        self.assertEqual(self.moments(disc), {"": 3, "a": 0})

    def test_behind_what_is_refused_or_wrong_all_is_as_ahead(self):
        disc = disc_with(("folder", "a"), ("file", "a/x", ""), ("file", "y", ""), ("link", "l", ""))
        for act, word in (
            (("folder", "A"), "stands"),
            (("file", "a", ""), "kind"),
            (("link", "y", "z"), "stands"),
            (("gone", "z"), "none"),
            (("move", "a", "a/b"), "within"),
            (("move", "l", "y"), "stands"),
            (("move", "", "y"), "root"),
        ):
            self.refuses(disc, act, word)
        before = standing(disc)
        for act in (("file", "a", "x" * 401), ["folder", "b"], ("move", "a", "b/")):
            self.assertIs(raised(BadAct, disc.do, act), act)
            self.assertEqual(standing(disc), before)


class BadActs(Case):
    def bad(self, act):
        disc = disc_with(("folder", "a"), ("file", "a/x", "text"))
        twin = disc.copy()
        self.assertIs(raised(BadAct, disc.do, act), act, act)
        self.assertTrue(disc == twin, act)

    def test_any_value(self):
        for value in any_values():
            self.bad(value)

    def test_words_that_are_none(self):
        for word in any_values() + ["Folder", "FILE", "gone ", "mov", "put", "born"]:
            self.bad((word, "b"))
            self.bad((word, ""))
            if word != "file":
                self.bad((word, "b", "c"))

    def test_wrong_lengths(self):
        for act in (
            ("folder",),
            ("folder", "b", ""),
            ("folder", "b", "c"),
            ("file", "b"),
            ("file", "b", "", ""),
            ("link", "b"),
            ("link", "b", "", None),
            ("gone",),
            ("gone", "a", "a"),
            ("gone", "a", ""),
            ("move", "a"),
            ("move", "a", "b", "c"),
            ("move",),
            ("file",),
            (),
        ):
            self.bad(act)

    def test_lists_and_dicts_in_place_of_tuples(self):
        for act in (["folder", "b"], ["file", "b", ""], ["gone", "a"], ["move", "a", "b"], {"folder": "b"}, "folder b"):
            self.bad(act)

    def test_paths_that_are_none(self):
        paths = (
            ".",
            "..",
            "/",
            "a/",
            "/a",
            "a//b",
            "a/.",
            "a/..",
            "./a",
            "../a",
            "a/./b",
            "a/../b",
            "//",
            " ",
            "a b",
            "a\\b",
            "a\n",
            "\n",
            "a:b",
            "a~",
            "a%",
            "a+b",
            "a@",
            "a,b",
            "a;",
            "a=b",
            "a*",
            "a?",
            "\u00e4",
            "a\u0301",
            "\u0130",
            "\u212a",
            "a\x00",
            "a\t",
            "\u0661",
            "\uff41",
            "a\x7f",
            "a/b c",
        )
        for path in paths:
            for act in (
                ("folder", path),
                ("file", path, ""),
                ("link", path, ""),
                ("gone", path),
                ("move", path, "b"),
                ("move", "a", path),
                ("move", path, path),
            ):
                self.bad(act)

    def test_each_sign_that_no_name_has(self):
        allowed = "abcdefghijklmnopqrstuvwxyzABCDEFGHIJKLMNOPQRSTUVWXYZ0123456789.-_/"
        for sign in [chr(number) for number in range(256)]:
            if sign not in allowed:
                self.bad(("folder", "b" + sign))
                self.bad(("folder", sign))
            elif sign not in "./":
                self.assertIsNone(Disc().do(("folder", sign)))

    def test_paths_that_are_no_strings(self):
        for path in any_values():
            if isinstance(path, str):
                continue
            for act in (
                ("folder", path),
                ("file", path, ""),
                ("link", path, ""),
                ("gone", path),
                ("move", path, "b"),
                ("move", "a", path),
            ):
                self.bad(act)

    def test_texts_that_are_none(self):
        texts = [
            "x" * 401,
            "\n",
            "a\n",
            "a\tb",
            "\x1f",
            "\x7f",
            "\u00e4",
            "\u2013",
            "\x00",
            "\r",
            "x" * 400 + "\n",
            "\ud800",
        ]
        texts = texts + [value for value in any_values() if not isinstance(value, str)]
        for text in texts:
            self.bad(("file", "b", text))
            self.bad(("file", "a/x", text))
            self.bad(("link", "b", text))

    def test_each_sign_that_no_text_has(self):
        for sign in [chr(number) for number in range(256)]:
            if " " <= sign <= "~":
                self.assertIsNone(Disc().do(("file", "b", sign)))
            else:
                self.bad(("file", "b", sign))

    def test_they_come_ahead_of_what_is_refused(self):
        for act in (
            ("folder", "", ""),
            ("file", "", "\n"),
            ("file", "a", "x" * 401),
            ("link", "a", None),
            ("move", "", "."),
            ("move", "..", ""),
            ("gone", "b/."),
        ):
            self.bad(act)

    def test_deep_values(self):
        deep = nested(59)
        for act in ((deep,), ("folder", deep), ("file", "b", deep), ("move", "a", deep), (deep, "a")):
            self.bad(act)

    def test_names_of_40_signs_and_folders_30_deep(self):
        disc, path = Disc(), ""
        for deep in range(30):
            path = path + ("/" if path else "") + "n" * 38 + f"{deep:02d}"
            disc.do(("folder", path))
        self.assertEqual((len(disc.rows()), disc.rows()[-1][0]), (30, path))
        self.refuses(disc, ("folder", path.upper()), "stands")
        self.refuses(disc, ("move", path.split("/")[0], path + "/x"), "within")
