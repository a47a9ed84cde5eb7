"""Maps: what is built by them, what they cost, which are the least, how they are told."""

import itertools
import random
import unittest

from allonetree import mapping
from allonetree.errors import BadMap, BadText
from allonetree.mapping import built, cost, map_of, map_text, read_map, shows_map_of
from tests import plain_letters
from tests.values import any_values, bends, raised

OLD = "the cat sat on the mat"
GOOD = (("copy", 0, 8), ("text", "lay"), ("copy", 11, 11), ("text", ","), ("copy", 11, 11))
NEW = "the cat lay on the mat, on the mat"

NO_TEXTS = ["x" * 401, "a\n", "\t", "\x7f", "\u00e4", "a\x00"]

# Maps for no TEXT.
NO_MAPS = [
    (("copy", 0, 0),),
    (("copy", -1, 2),),
    (("copy", 1, -1),),
    (("copy", 0, 401),),
    (("copy", 400, 1),),
    (("copy", 399, 2),),
    (("copy", True, 1),),
    (("copy", False, 1),),
    (("copy", 0, True),),
    (("copy", 0, "1"),),
    (("copy", "0", 1),),
    (("copy", 0),),
    (("copy", 0, 1, 1),),
    (("copy", "a"),),
    (("text", ""),),
    (("text", "x" * 401),),
    (("text", "a\n"),),
    (("text", "\u00e4"),),
    (("text", "a", "b"),),
    (("text", 1, 1),),
    (("text",),),
    (("text", None),),
    (("text", ("a",)),),
    (("Copy", 0, 1),),
    (("TEXT", "a"),),
    (("", "a"),),
    ((),),
    (["copy", 0, 1],),
    [("copy", 0, 1)],
    ("copy", 0, 1),
    ("text", "a"),
    (("copy", 0, 1), None),
    (None, ("copy", 0, 1)),
    (("text", "a"), ["text", "b"]),
    {("copy", 0, 1): 1},
]


def no_maps():
    found = NO_MAPS + bends(GOOD) + bends(GOOD[:1]) + any_values()
    return [value for value in found if not plain_letters.is_map(value)]


def no_texts():
    return [value for value in any_values() + NO_TEXTS if not isinstance(value, str) or value in NO_TEXTS + ["a\nb"]]


class Built(unittest.TestCase):
    def test_each_kind_of_piece(self):
        self.assertEqual(built("abc", (("copy", 0, 3),)), "abc")
        self.assertEqual(built("abc", (("copy", 1, 1),)), "b")
        self.assertEqual(built("abc", (("text", "x y "),)), "x y ")
        self.assertEqual(built("", (("text", "~"),)), "~")
        self.assertEqual(built("abc", (("copy", 2, 1), ("text", "-"), ("copy", 0, 2), ("copy", 0, 1))), "c-aba")
        self.assertEqual(built("abc", (("text", "x"), ("text", "y"))), "xy")
        self.assertEqual(built(OLD, GOOD), NEW)

    def test_no_pieces(self):
        self.assertEqual((built("", ()), built("abc", ())), ("", ""))

    def test_copies_that_end_where_the_elder_text_ends(self):
        for old in ("a", "abcd", "x" * 399, "x" * 400):
            for start in (0, len(old) - 1):
                whole = (("copy", start, len(old) - start),)
                beyond = (("copy", start, len(old) - start + 1),)
                self.assertEqual(built(old, whole), old[start:])
                self.assertIs(raised(BadMap, built, old, beyond), beyond)
        for value in ((("copy", 0, 1),), (("text", "a"), ("copy", 0, 1)), (("copy", 3, 1),)):
            self.assertIs(raised(BadMap, built, "", value), value)
        value = (("copy", 4, 1),)
        self.assertIs(raised(BadMap, built, "abcd", value), value)

    def test_what_is_built_is_a_text(self):
        old = "ab" * 200
        whole = ("copy", 0, 400)
        for value in (
            (whole,),
            (("copy", 0, 399), ("text", "c")),
            (("copy", 0, 200), ("copy", 0, 200)),
            (("text", "c" * 400),),
        ):
            self.assertEqual(len(built(old, value)), 400)
            for more in (("text", "d"), ("copy", 7, 1)):
                for longer in (value + (more,), (more,) + value):
                    self.assertIs(raised(BadMap, built, old, longer), longer)
                    # It is a MAP all the same.
                    self.assertEqual(cost(longer), cost(value) + (3 if more[0] == "text" else 6))
        self.assertEqual(built(old, (("copy", 1, 399),)), old[1:])

    def test_values_that_are_no_maps(self):
        for value in no_maps():
            self.assertIs(raised(BadMap, built, "abc", value), value)
            self.assertIs(raised(BadMap, built, old="x" * 400, value=value), value)

    def test_the_elder_text_is_told_of_first(self):
        for old in no_texts():
            self.assertIs(raised(BadText, built, old, ()), old)
            self.assertIs(raised(BadText, built, old, None), old)

    def test_beside_a_second_writing(self):
        chance = random.Random(1)
        met = [0, 0]
        for _ in range(600):
            old = "".join(chance.choice("abc") for _ in range(chance.choice((0, 1, 5, 9))))
            value = some_map(chance, 9)
            text = plain_letters.built(old, value)
            met[text is None] += 1
            if text is None:
                self.assertIs(raised(BadMap, built, old, value), value)
            else:
                self.assertEqual(built(old, value), text)
        self.assertGreater(min(met), 100)


def some_map(chance, most):
    found = []
    for _ in range(chance.choice((0, 1, 1, 2, 3, 5))):
        if chance.random() < 0.5:
            start = chance.randrange(most)
            found.append(("copy", start, chance.randint(1, most - start)))
        else:
            found.append(("text", "".join(chance.choice("abc ~") for _ in range(chance.randint(1, 4)))))
    return tuple(found)


class Cost(unittest.TestCase):
    def test_pieces(self):
        self.assertEqual(cost(()), 0)
        self.assertEqual([cost((("copy", 0, many),)) for many in (1, 2, 399, 400)], [6] * 4)
        self.assertEqual([cost((("text", "x" * many),)) for many in (1, 2, 399, 400)], [3, 4, 401, 402])
        self.assertEqual(cost(GOOD), 6 + 5 + 6 + 3 + 6)

    def test_start_and_many(self):
        for start, many in ((0, 400), (399, 1), (200, 200)):
            self.assertEqual(cost((("copy", start, many),)), 6)
        for start, many in ((0, 401), (399, 2), (400, 1), (401, 1), (200, 201)):
            value = (("copy", start, many),)
            self.assertIs(raised(BadMap, cost, value), value)

    def test_what_is_built_may_be_longer_than_a_text(self):
        self.assertEqual(cost((("copy", 0, 400),) * 3), 18)
        self.assertEqual(cost((("text", "x" * 400),) * 2), 804)

    def test_values_that_are_no_maps(self):
        for value in no_maps():
            self.assertIs(raised(BadMap, cost, value), value)
            self.assertIs(raised(BadMap, map_text, value), value)

    def test_maps_that_are_bent_and_still_maps(self):
        for value in bends(GOOD):
            if plain_letters.is_map(value):
                self.assertEqual(cost(value), plain_letters.cost(value))


def all_maps(old, new):
    """Each MAP by which new is built of old."""
    if new == "":
        yield ()
    for many in range(1, len(new) + 1):
        for rest in all_maps(old, new[many:]):
            yield (("text", new[:many]),) + rest
            for start in range(len(old)):
                if old[start : start + many] == new[:many]:
                    yield (("copy", start, many),) + rest


class Least(unittest.TestCase):
    def least(self, old, new):
        found = map_of(old, new)
        self.assertTrue(plain_letters.is_map(found))
        self.assertEqual(plain_letters.built(old, found), new)
        self.assertEqual(built(old, found), new)
        self.assertEqual(cost(found), plain_letters.least_cost(old, new))
        self.assertIs(shows_map_of(old, new, found), True)
        self.assertEqual(map_of(old, new), found)
        return found

    def test_beside_all_maps_of_short_texts(self):
        for old in ("", "a", "ab", "aab", "abab"):
            for new in ["".join(signs) for many in range(5) for signs in itertools.product("ab", repeat=many)]:
                found = self.least(old, new)
                values = list(all_maps(old, new))
                least = min(cost(value) for value in values)
                self.assertEqual(cost(found), least)
                self.assertIn(found, values)
                for value in values:
                    self.assertIs(shows_map_of(old, new, value), cost(value) == least)

    def test_longer_texts_of_few_signs(self):
        chance = random.Random(2)
        kinds = {}
        for _ in range(700):
            old = "".join(chance.choice("ab") for _ in range(chance.randint(0, 40)))
            new = "".join(chance.choice("abc"[: chance.choice((2, 2, 3))]) for _ in range(chance.randint(0, 40)))
            if chance.random() < 0.7 and old:
                at = chance.randrange(len(old))
                new = new[: chance.randint(0, 6)] + old[at:] + new[:3] + old[: chance.randint(0, at)]
            found = self.least(old, new)
            words = tuple(piece[0] for piece in found)
            kinds[words] = kinds.get(words, 0) + 1
        self.assertGreater(len(kinds), 12)

    def test_texts_without_signs(self):
        self.assertEqual(self.least("", ""), ())
        self.assertEqual(self.least("abc", ""), ())
        self.assertEqual(self.least("", "abc"), (("text", "abc"),))

    def test_alike_texts(self):
        for many in (1, 3):
            self.assertEqual(self.least("abcd"[:many], "abcd"[:many]), (("text", "abcd"[:many]),))
        # As dear as one another: a text of four signs, and a copy.
        self.assertEqual(cost(self.least("abcd", "abcd")), 6)
        for value in ((("copy", 0, 4),), (("text", "abcd"),)):
            self.assertIs(shows_map_of("abcd", "abcd", value), True)
        self.assertEqual(self.least("abcde", "abcde"), (("copy", 0, 5),))
        self.assertEqual(cost(self.least("x" * 400, "x" * 400)), 6)

    def test_texts_of_four_hundred_signs(self):
        signs = "".join(chr(33 + number * number % 89) for number in range(400))
        self.assertEqual(self.least(signs, signs), (("copy", 0, 400),))
        self.assertEqual(self.least("", signs), (("text", signs),))
        self.assertEqual(cost(self.least(signs, signs[200:] + signs[:200])), 12)
        self.assertEqual(cost(self.least(signs, signs[:199] + " " + signs[200:])), 15)
        self.assertEqual(cost(self.least("x" * 400, "x" * 399 + "y")), 9)
        self.assertEqual(cost(self.least("y" * 400, "x" * 400)), 402)
        self.assertEqual(cost(self.least("x" * 100, "x" * 400)), 24)

    def test_a_copy_within_reach_of_two_texts(self):
        # 13 for two texts and a copy; as much for one text, if the copy has 8 signs.
        self.assertEqual(self.least("abcdefghi", "XXabcdefghiY"), (("text", "XX"), ("copy", 0, 9), ("text", "Y")))
        self.assertEqual(cost(self.least("abcdefgh", "XXabcdefghY")), 13)
        self.assertEqual(self.least("abcdefg", "XXabcdefgY"), (("text", "XXabcdefgY"),))

    def test_values_that_are_no_texts(self):
        for value in no_texts():
            for call, more in ((map_of, ()), (shows_map_of, ((),))):
                self.assertIs(raised(BadText, call, value, "a", *more), value)
                self.assertIs(raised(BadText, call, value, None, *more), value)
                self.assertIs(raised(BadText, call, "a", value, *more), value)


class Shows(unittest.TestCase):
    def test_right_and_wrong(self):
        self.assertIs(shows_map_of(OLD, NEW, GOOD), True)
        for value in (
            # A greater cost.
            (("text", NEW),),
            (("copy", 0, 8), ("text", "l"), ("text", "ay")) + GOOD[2:],
            (("copy", 0, 7), ("text", " lay")) + GOOD[2:],
            # Other texts.
            GOOD[:1],
            GOOD[:-1],
            GOOD + (("text", "x"),),
            (),
            # Not of this elder TEXT.
            GOOD[:4] + (("copy", 12, 11),),
        ):
            self.assertIs(shows_map_of(OLD, NEW, value), False)
        self.assertIs(shows_map_of("x" * 400, "", (("copy", 0, 400),) * 2), False)

    def test_any_value(self):
        for value in no_maps() + [list(GOOD), tuple(list(piece) for piece in GOOD), str(GOOD)]:
            self.assertIs(shows_map_of(OLD, NEW, value), False)
            self.assertIs(shows_map_of("a", "", value), False)
        self.assertIs(shows_map_of("a", "", ()), True)
        # True is not 1, and False is not 0.
        self.assertIs(shows_map_of("abcdef", "abcdef", (("copy", 0, 6),)), True)
        self.assertIs(shows_map_of("abcdef", "abcdef", (("copy", False, 6),)), False)


class Told(unittest.TestCase):
    def test_lines(self):
        self.assertEqual(map_text(()), "")
        self.assertEqual(map_text((("copy", 0, 8),)), "copy 0 8")
        self.assertEqual(map_text((("text", " a  b "), ("copy", 12, 388))), "text  a  b \ncopy 12 388")

    def test_there_and_back(self):
        chance = random.Random(3)
        for value in [some_map(chance, 400) for _ in range(300)] + [(("text", " "),), (("text", "~" * 400),), GOOD]:
            self.assertEqual(map_text(value), plain_letters.map_text(value))
            self.assertEqual(read_map(map_text(value)), value)
        # Also such as are built of no TEXT into a TEXT.
        value = (("copy", 0, 400), ("text", "y" * 400), ("copy", 399, 1))
        self.assertEqual(read_map(text=map_text(value=value)), value)

    def test_lines_that_tell_no_piece(self):
        bad = [
            "",
            " ",
            "copy",
            "copy ",
            "copy 0",
            "copy 0 ",
            "copy  0 1",
            "copy 0  1",
            "copy 0 1 ",
            " copy 0 1",
            "copy 0 1 1",
            "copy 0 0",
            "copy 01 1",
            "copy 1 01",
            "copy 00 1",
            "copy +1 1",
            "copy -1 1",
            "copy 1 -1",
            "copy 1 1.0",
            "copy 0 401",
            "copy 1 400",
            "copy 400 1",
            "copy 399 2",
            "copy a 1",
            "copy \u0661 1",
            "copy 0 1\t",
            "copy 0 1\r",
            "Copy 0 1",
            "copying 0 1",
            "text",
            "text ",
            "Text a",
            "texts a",
            " text a",
            "text " + "x" * 401,
            "text a\t",
            "text \u00e4",
            "a",
            "-",
            "deeds",
            "copy 0 999999999",
        ]
        good = ["copy 0 1", "text  ", "copy 0 400", "copy 399 1", "text copy 0 1", "text " + "x" * 400]
        for line in good:
            self.assertEqual(len(read_map(line)), 1, line)
        for line in bad:
            self.assertIsNone(plain_letters.read_piece(line), line)
            if line != "":
                self.assertEqual(raised(BadMap, read_map, line), 1)
            for at in range(1, 4):
                lines = good[:at] + [line] + good[at:] + bad[:3]
                self.assertEqual(raised(BadMap, read_map, "\n".join(lines)), at + 1)
        self.assertEqual(raised(BadMap, read_map, "\n"), 1)
        self.assertEqual(raised(BadMap, read_map, "copy 0 1\n"), 2)
        self.assertEqual(raised(BadMap, read_map, "copy 0 1\n\ncopy 0 1"), 2)
        self.assertEqual(read_map(""), ())

    def test_what_is_no_string(self):
        for value in any_values():
            if not isinstance(value, str):
                self.assertEqual(raised(BadMap, read_map, value), 0)

    def test_beside_a_second_writing(self):
        chance = random.Random(4)
        met = [0, 0]
        for _ in range(500):
            text = map_text(some_map(chance, 300)) or "text a"
            at = chance.randrange(len(text))
            text = text[:at] + chance.choice(("", "\n", " ", "0", "x", "copy", "text")) + text[at + chance.randint(0, 1) :]
            found = plain_letters.read_map(text)
            met[isinstance(found, int)] += 1
            if isinstance(found, int):
                self.assertEqual(raised(BadMap, read_map, text), found)
            else:
                self.assertEqual(read_map(text), found)
        self.assertGreater(min(met), 100)


class Named(unittest.TestCase):
    def test_arguments_by_name(self):
        self.assertEqual(built(value=GOOD, old=OLD), NEW)
        self.assertEqual(cost(value=GOOD), 26)
        self.assertEqual(map_of(new="", old="a"), ())
        self.assertIs(shows_map_of(value=(), new="", old="a"), True)
        self.assertEqual(map_text(value=()), "")
        self.assertEqual(read_map(text=""), ())

    def test_arguments_stay_as_they_are(self):
        before = repr(GOOD)
        for call in (cost, map_text):
            call(GOOD)
        built(OLD, GOOD)
        shows_map_of(OLD, NEW, list(GOOD))
        self.assertEqual(repr(GOOD), before)

    def test_costs_are_told(self):
        self.assertEqual((mapping.COPY_COST, mapping.TEXT_COST), (6, 2))
