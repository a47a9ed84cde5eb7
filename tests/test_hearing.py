"""Sets of deeds as they are heard."""

import random
import unittest

from allonetree.errors import BadDeed, BadHeard, BadVector, Early, Unlike
from allonetree.hearing import hears, joined, lacks, stamp_of, vector
from tests import plain_forms
from tests.chances import part, shuffled, wild
from tests.values import any_values, bends, raised

# Three LIVES; two of the stamps stand twice.
FOLDER = ("born", (2, 0), 3, "folder", None, "f", "")
FILE = ("born", (2, 1), 5, "file", (2, 0), "a", "")
LINK = ("born", (7, 0), 5, "link", (2, 0), "b", "to")
WRITE = ("write", (7, 1), 6, (2, 1), "one", ())
PUT = ("put", (7, 2), 9, (7, 0), None, "c")
GONE = ("gone", (10, 0), 9, (2, 1), ((7, 1),))
HEARD = (FOLDER, FILE, LINK, WRITE, PUT, GONE)

# Each is no HEARD for another reason.
NO_HEARDS = (
    ("a list", list(HEARD)),
    ("a deed alone", FOLDER),
    ("no deed in it", (FOLDER, None)),
    ("a list for a deed", (list(FOLDER),)),
    ("True for 1", (("born", (True, 0), 1, "folder", None, "f", ""),)),
    ("False for 0", (("born", (1, False), 1, "folder", None, "f", ""),)),
    ("True for a stamp", (("born", (1, 0), True, "folder", None, "f", ""),)),
    ("a gap at first", (FILE,)),
    ("a gap", (FOLDER, ("gone", (2, 2), 6, (2, 0), ()))),
    ("a gap behind another life", (FOLDER, FILE, WRITE)),
    ("a dot twice", (FOLDER, FOLDER)),
    ("a dot twice, unlike", (FOLDER, ("gone", (2, 0), 4, (2, 0), ()))),
    ("numbers turned round", (FILE, FOLDER)),
    ("lives turned round", (LINK, FOLDER)),
    ("lives mixed", (FOLDER, LINK, FILE)),
    ("a stamp that falls", (FOLDER, ("gone", (2, 1), 2, (2, 0), ()))),
    ("a stamp that stays", (FOLDER, ("gone", (2, 1), 3, (2, 0), ()))),
    ("a later stamp that stays", (LINK, WRITE, ("gone", (7, 2), 6, (2, 0), ()))),
    ("a set of tuples", {FOLDER: FILE}),
)


def heard_of(**lives):
    """For life1=3 three DEEDS of LIFE 1, and so on."""
    rows = sorted((int(word[4:]), many) for word, many in lives.items())
    return tuple(("gone", (life, at), at + 1, (1, 0), ()) for life, many in rows for at in range(many))


class Vectors(unittest.TestCase):
    def test_vectors_of_none_to_four_lives(self):
        self.assertEqual(vector(()), ())
        self.assertEqual(vector(heard_of(life5=1)), ((5, 1),))
        self.assertEqual(vector(heard_of(life5=12, life4=1)), ((4, 1), (5, 12)))
        self.assertEqual(vector(heard_of(life10=2, life9=3, life1000000=1)), ((9, 3), (10, 2), (1000000, 1)))
        self.assertEqual(vector(heard_of(life1=1, life2=2, life3=3, life4=4)), ((1, 1), (2, 2), (3, 3), (4, 4)))
        self.assertEqual(vector(HEARD), ((2, 2), (7, 3), (10, 1)))

    def test_a_vector_is_of_tuples(self):
        found = vector(HEARD)
        self.assertTrue(type(found) is tuple and all(type(row) is tuple for row in found))


class Lacks(unittest.TestCase):
    def test_all_and_none(self):
        self.assertEqual(lacks(HEARD, ()), HEARD)
        self.assertEqual(lacks(HEARD, vector(HEARD)), ())
        self.assertEqual(lacks((), ()), ())
        self.assertEqual(lacks((), ((1, 5),)), ())

    def test_some_of_each_life(self):
        self.assertEqual(lacks(HEARD, ((2, 1), (7, 1))), (FILE, WRITE, PUT, GONE))
        self.assertEqual(lacks(HEARD, ((7, 2), (10, 1))), (FOLDER, FILE, PUT))
        self.assertEqual(lacks(HEARD, ((2, 2),)), (LINK, WRITE, PUT, GONE))

    def test_lives_that_nobody_heard_of_and_more_than_there_is(self):
        self.assertEqual(lacks(HEARD, ((1, 9), (2, 1), (3, 1), (11, 4))), (FILE, LINK, WRITE, PUT, GONE))
        self.assertEqual(lacks(HEARD, ((2, 3), (7, 999999999), (10, 2), (1000000, 1))), ())

    def test_what_is_no_vector(self):
        good = ((2, 1), (7, 3), (9, 5))
        self.assertEqual(lacks(HEARD, good), (FILE, GONE))
        met = 0
        for value in any_values() + bends(good):
            if plain_forms.vector(value):
                lacks(HEARD, value)
            else:
                met += 1
                self.assertIs(raised(BadVector, lacks, HEARD, value), value)
        self.assertGreater(met, 60)
        for value in (((2, 0),), ((0, 1),), ((1000001, 1),), ((2, 1), (2, 1)), ((2, 1), (2, 2)), ((3, 1), (2, 1))):
            self.assertIs(raised(BadVector, lacks, HEARD, value), value)
        for value in (((True, 2),), ((2, True),), ([2, 1],), [(2, 1)], ((2, 1, 1),), {2: 1}, (2, 1)):
            self.assertIs(raised(BadVector, lacks, HEARD, value), value)

    def test_heard_comes_first(self):
        value = [1]
        self.assertIs(raised(BadHeard, lacks, value, [2]), value)
        self.assertIs(raised(BadHeard, lacks, value, ()), value)


class Joined(unittest.TestCase):
    def test_parts_either_way_round(self):
        one, other = (FOLDER, FILE, LINK), (FOLDER, LINK, WRITE, PUT, GONE)
        self.assertEqual(joined(one, other), HEARD)
        self.assertEqual(joined(other, one), HEARD)
        self.assertEqual(joined((), ()), ())
        self.assertEqual(joined((), HEARD), HEARD)
        self.assertEqual(joined(HEARD, ()), HEARD)
        self.assertEqual(joined(HEARD, HEARD), HEARD)

    def test_parts_by_chance(self):
        for seed in range(150):
            chance = random.Random(seed)
            heard = wild(chance, chance.randint(1, 4), 16)
            one, other = part(chance, heard), part(chance, heard)
            told = tuple(sorted(set(one) | set(other), key=lambda deed: deed[1]))
            self.assertEqual(joined(one, other), told)
            self.assertEqual(joined(other, one), told)
            self.assertTrue(plain_forms.heard(told))
            self.assertEqual(joined(one, lacks(heard, ())), heard)
            if vector(one) != ():
                self.assertEqual(lacks(heard, vector(one)), tuple(deed for deed in heard if deed not in one))

    def test_the_least_dot_that_is_unlike(self):
        other = list(HEARD)
        for at in (5, 3, 1):
            bent = HEARD[at][:3] + ((2, 9),) + HEARD[at][4:] if at != 1 else FILE[:5] + ("other", "")
            other[at] = bent
            self.assertEqual(raised(Unlike, joined, HEARD, tuple(other)), HEARD[at][1])
            self.assertEqual(raised(Unlike, joined, tuple(other), HEARD), HEARD[at][1])

    def test_unlike_in_what_is_longer_on_one_side(self):
        short = (FOLDER, ("gone", (2, 1), 5, (2, 0), ()))
        self.assertEqual(raised(Unlike, joined, short, HEARD), (2, 1))
        self.assertEqual(raised(Unlike, joined, HEARD, short), (2, 1))
        stamped = (FOLDER[:2] + (4,) + FOLDER[3:],)
        self.assertEqual(raised(Unlike, joined, stamped, HEARD), (2, 0))

    def test_one_comes_ahead_of_the_other(self):
        one, other = [1], [2]
        self.assertIs(raised(BadHeard, joined, one, other), one)
        self.assertIs(raised(BadHeard, joined, HEARD, other), other)
        self.assertIs(raised(BadHeard, joined, one, HEARD), one)
        unlike = (FOLDER[:2] + (1,) + FOLDER[3:],)
        self.assertIs(raised(BadHeard, joined, unlike, other), other)


class Hears(unittest.TestCase):
    def test_in_any_sequence(self):
        for seed in range(120):
            chance = random.Random(seed)
            heard = wild(chance, chance.randint(1, 4), 12)
            found = ()
            for deed in shuffled(chance, heard):
                found = hears(found, deed)
                self.assertTrue(plain_forms.heard(found))
                self.assertIn(deed, found)
                self.assertEqual(hears(found, deed), found)
            self.assertEqual(found, heard)

    def test_a_deed_twice(self):
        for deed in HEARD:
            self.assertEqual(hears(HEARD, deed), HEARD)

    def test_a_deed_that_is_unlike(self):
        for deed in (FILE[:2] + (6,) + FILE[3:], FILE[:5] + ("A", ""), ("gone", (2, 1), 5, (2, 1), ())):
            self.assertEqual(raised(Unlike, hears, HEARD, deed), (2, 1))
        # Its stamp is below that ahead of it, too; that it is unlike comes first.
        self.assertEqual(raised(Unlike, hears, HEARD, ("gone", (7, 2), 1, (2, 1), ())), (7, 2))
        self.assertEqual(raised(Unlike, hears, HEARD, ("gone", (10, 0), 1, (2, 1), ())), (10, 0))

    def test_a_deed_that_is_early(self):
        def gone(life, number, stamp=99):
            return ("gone", (life, number), stamp, (2, 0), ())

        self.assertEqual(raised(Early, hears, HEARD, gone(2, 3)), (2, 2))
        self.assertEqual(raised(Early, hears, HEARD, gone(2, 9)), (2, 2))
        self.assertEqual(raised(Early, hears, HEARD, gone(7, 7)), (7, 3))
        self.assertEqual(raised(Early, hears, HEARD, gone(8, 2)), (8, 0))
        self.assertEqual(raised(Early, hears, (), gone(1, 1)), (1, 0))
        # Its stamp isn't looked at yet.
        self.assertEqual(raised(Early, hears, HEARD, gone(2, 4, 1)), (2, 2))

    def test_stamps(self):
        for stamp in (1, 4, 5):
            deed = ("gone", (2, 2), stamp, (2, 0), ())
            self.assertIs(raised(BadDeed, hears, HEARD, deed), deed)
        for stamp in (1, 2, 3):
            deed = ("gone", (2, 1), stamp, (2, 0), ())
            self.assertIs(raised(BadDeed, hears, (FOLDER,), deed), deed)
        deed = ("gone", (2, 2), 6, (2, 0), ())
        self.assertEqual(hears(HEARD, deed), (FOLDER, FILE, deed, LINK, WRITE, PUT, GONE))
        # Another LIFE has its own stamps.
        deed = ("gone", (1, 0), 1, (2, 0), ())
        self.assertEqual(hears(HEARD, deed), (deed,) + HEARD)
        deed = ("gone", (11, 0), 9, (2, 0), ())
        self.assertEqual(hears(HEARD, deed), HEARD + (deed,))

    def test_what_is_no_deed(self):
        met = 0
        for good in (FOLDER, LINK, WRITE, PUT, GONE):
            for value in bends(good) + any_values():
                if not plain_forms.deed(value):
                    met += 1
                    self.assertIs(raised(BadDeed, hears, HEARD, value), value)
        self.assertGreater(met, 250)
        value = [1]
        self.assertIs(raised(BadHeard, hears, value, value[:]), value)
        self.assertIs(raised(BadHeard, hears, value, WRITE), value)

    def test_arguments_stay_as_they_are(self):
        heard = (FOLDER,)
        self.assertEqual(hears(heard, FILE), (FOLDER, FILE))
        self.assertEqual(heard, (FOLDER,))


class Stamps(unittest.TestCase):
    def test_stamps(self):
        self.assertEqual(stamp_of(()), 1)
        self.assertEqual(stamp_of((FOLDER,)), 4)
        self.assertEqual(stamp_of(HEARD), 10)
        self.assertEqual(stamp_of(HEARD[:5]), 10)
        self.assertEqual(stamp_of((("gone", (1, 0), 999999999, (1, 0), ()), ("gone", (2, 0), 1, (1, 0), ()))), 10**9)


class Sets(unittest.TestCase):
    """What is a HEARD, and what is not."""

    def test_sets(self):
        for heard in ((), (FOLDER,), HEARD, HEARD[2:], HEARD[5:]):
            self.assertTrue(plain_forms.heard(heard))
            self.assertEqual(joined(heard, ()), heard)

    def test_what_is_no_set(self):
        for word, value in NO_HEARDS:
            self.assertFalse(plain_forms.heard(value), word)
            self.assertIs(raised(BadHeard, vector, value), value, word)
