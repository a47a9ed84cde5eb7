"""Values that are not as their definitions tell: which error is raised, with which value, and which first."""

import itertools
import unittest

from allonetree import books, hearing, living, looking, moving, pictures, placing, telling
from allonetree.discs import Disc
from allonetree.errors import (
    BadBooked,
    BadChanges,
    BadDeed,
    BadHeard,
    BadKey,
    BadKnown,
    BadLife,
    BadStanding,
    BadTried,
    BadVector,
    NoDisc,
)
from tests import plain_forms
from tests.values import any_values, bends, raised

HEARD = (
    ("born", (1, 0), 1, "folder", None, "f", ""),
    ("born", (1, 1), 2, "file", (1, 0), "x", ""),
    ("write", (1, 2), 4, (1, 1), "one", ()),
    ("put", (3, 0), 1, (1, 0), None, "g"),
    ("born", (3, 1), 2, "link", None, "l", "to"),
    ("gone", (3, 2), 5, (3, 1), ((3, 1), (10, 0))),
)
KNOWN = (
    (1, ("item", (1, 0)), (0, "f"), None, ((1, 0), (3, 0))),
    (2, ("item", (1, 1)), (1, "x"), (1, 2), ((1, 1),)),
    (5, ("beside", (1, 1), (1, 2)), None, (1, 2), ()),
)
STANDING = ((1, (0, "f"), "folder", ""), (2, (1, "x"), "file", "one"), (4, None, "link", "to"))
CHANGES = ((1, None), (2, KNOWN[1]), (7, (7,) + KNOWN[2][1:]))

# For each parameter: its error, whether a value is none to be raised for, and values of which one part is bent.
FORMS = {
    "heard": (BadHeard, plain_forms.heard, [HEARD]),
    "one": (BadHeard, plain_forms.heard, [HEARD]),
    "other": (BadHeard, plain_forms.heard, [HEARD[:3]]),
    "vector": (BadVector, plain_forms.vector, [((1, 1), (3, 2), (4, 1))]),
    "deed": (BadDeed, plain_forms.deed, list(HEARD)),
    "life": (BadLife, plain_forms.life, [1, 1000000]),
    "known": (BadKnown, plain_forms.known, [KNOWN]),
    "standing": (BadStanding, plain_forms.standing, [STANDING]),
    "changes": (BadChanges, plain_forms.changes, [CHANGES]),
    "disc": (NoDisc, lambda value: isinstance(value, Disc), [Disc()]),
    "tried": (BadTried, plain_forms.tried, [(0, 5, 1, 5), ()]),
    "key": (BadKey, plain_forms.key, [("item", (1, 1)), ("beside", (1, 1), (1, 2))]),
    "booked": (
        BadBooked,
        plain_forms.booked,
        [("life", 1), ("heard", HEARD[2]), ("told", CHANGES, HEARD[1]), ("rows", CHANGES), ("shift", KNOWN[1])]
        + [("done", 3), ("not", 1)],
    ),
}

CALLS = (
    (hearing.vector, "heard"),
    (hearing.lacks, "heard vector"),
    (hearing.joined, "one other"),
    (hearing.hears, "heard deed"),
    (hearing.stamp_of, "heard"),
    (moving.places, "heard"),
    (living.stands, "heard"),
    (living.clashes, "heard"),
    (pictures.entries, "heard"),
    (pictures.picture, "heard"),
    (looking.Look, "disc"),
    (telling.told, "heard life known standing"),
    (telling.known_behind, "known changes"),
    (placing.shows, "heard key"),
    (placing.due, "heard known disc tried"),
    (placing.left, "heard known disc"),
    (books.book_line, "booked"),
    (books.read_book, "disc"),
    (books.mending, "disc"),
)

# In these a value of good form can have another one of the same error named for it.
OTHER_PARAMETERS = (
    (moving.is_out, {"dot": (1, 0)}),
    (moving.chain, {"item": (1, 0)}),
    (living.live, {"item": (1, 0)}),
    (placing.row_behind, {"known": KNOWN, "act": ("show", 1), "node": 1}),
)


def wrong_values(name):
    error, is_good, goods = FORMS[name]
    found = any_values()
    for good in goods:
        found.extend(bends(good))
    return [value for value in found if not is_good(value)]


def good_values(names):
    return {name: FORMS[name][2][0] for name in names}


class WrongValues(unittest.TestCase):
    def test_what_is_good_is_taken(self):
        for call, words in CALLS:
            call(**good_values(words.split()))
            call(*good_values(words.split()).values())
        for name in FORMS:
            for good in FORMS[name][2]:
                self.assertTrue(FORMS[name][1](good), good)

    def test_each_parameter_alone(self):
        for call, words in CALLS:
            names = words.split()
            for name in names:
                values = wrong_values(name)
                self.assertGreater(len(values), 20)
                for value in values:
                    self.assertIs(raised(FORMS[name][0], call, **{**good_values(names), name: value}), value)

    def test_the_first_of_several(self):
        for call, words in CALLS:
            names = words.split()
            for first, later in itertools.combinations(names, 2):
                for value in wrong_values(first)[::7]:
                    named = {**good_values(names), first: value, later: [later]}
                    self.assertIs(raised(FORMS[first][0], call, **named), value)
            wrong = {name: [name] for name in names}
            self.assertIs(raised(FORMS[names[0]][0], call, **wrong), wrong[names[0]])

    def test_what_is_no_set_ahead_of_all_else(self):
        for call, named in OTHER_PARAMETERS:
            call(HEARD, **named)
            for value in wrong_values("heard"):
                self.assertIs(raised(BadHeard, call, heard=value, **named), value)
                self.assertIs(raised(BadHeard, call, heard=value, **{name: None for name in named}), value)

    def test_known_of_row_behind(self):
        for value in wrong_values("known"):
            self.assertIs(raised(BadKnown, placing.row_behind, HEARD, value, ("show", 1), 1), value)
            self.assertIs(raised(BadKnown, placing.row_behind, HEARD, value, None, None), value)

    def test_what_is_good_though_bent_is_taken(self):
        """The forms alone are looked at: no error of the parameter's own is raised for other good values."""
        for call, words in CALLS:
            names = words.split()
            for name in ("known", "standing", "changes", "tried", "key", "booked", "vector"):
                if name in names and call not in (telling.told, placing.due, placing.left):
                    for good in FORMS[name][2]:
                        for value in bends(good):
                            if FORMS[name][1](value):
                                call(**{**good_values(names), name: value})

    def test_arguments_stay_as_they_are(self):
        for call, words in CALLS:
            names = [name for name in words.split() if name != "disc"]
            values = {**good_values(words.split())}
            before = repr([values[name] for name in names])
            call(**values)
            self.assertEqual(repr([values[name] for name in names]), before)

    def test_equal_calls_return_equal_results(self):
        for call, words in CALLS:
            if call != looking.Look:
                values = good_values(words.split())
                self.assertEqual(call(**values), call(**values))
