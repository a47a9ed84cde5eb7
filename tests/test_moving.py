"""The tree that bears moves."""

import itertools
import random
import unittest

from allonetree.errors import BadDeed, BadHeard, NoDeed, NoItem, Unlike
from allonetree.hearing import hears, joined
from allonetree.moving import Moves, chain, is_out, places
from tests import plain_forms, plain_heard
from tests.chances import part, shuffled, wild
from tests.values import any_values, bends, raised


def folder(life, number, stamp, parent, name="f"):
    return ("born", (life, number), stamp, "folder", parent, name, "")


def file(life, number, stamp, parent, name="x"):
    return ("born", (life, number), stamp, "file", parent, name, "")


def put(life, number, stamp, item, parent, name="p"):
    return ("put", (life, number), stamp, item, parent, name)


def heard_of(*deeds):
    return tuple(sorted(deeds, key=lambda deed: deed[1]))


A, B, C = (1, 0), (1, 1), (1, 2)
ROW = (folder(1, 0, 1, None, "a"), folder(1, 1, 2, A, "b"), file(1, 2, 3, B, "c"))


class Places(unittest.TestCase):
    def placed(self, deeds, rows, out=()):
        heard = heard_of(*deeds)
        self.assertEqual(places(heard), tuple(rows))
        for deed in heard:
            if deed[0] in ("born", "put"):
                self.assertIs(is_out(heard, deed[1]), deed[1] in out, deed)

    def test_borns(self):
        self.placed((), ())
        self.placed(ROW, [(A, None, "a"), (B, A, "b"), (C, B, "c")])
        link = ("born", (1, 0), 1, "link", None, "l", "t")
        self.placed((link,), [((1, 0), None, "l")])

    def test_alike_names_in_one_folder_are_placed(self):
        deeds = (folder(1, 0, 1, None, "a"), folder(2, 0, 1, None, "a"), file(3, 0, 1, None, "A"))
        self.placed(deeds, [((1, 0), None, "a"), ((2, 0), None, "a"), ((3, 0), None, "A")])

    def test_a_born_in_what_is_not_there(self):
        self.placed((file(1, 0, 1, (9, 9)),), (), [(1, 0)])

    def test_a_born_in_itself(self):
        self.placed((folder(1, 0, 1, (1, 0)),), (), [(1, 0)])

    def test_a_born_in_what_is_no_folder(self):
        deeds = (file(1, 0, 1, None), folder(1, 1, 2, (1, 0)))
        self.placed(deeds, [((1, 0), None, "x")], [(1, 1)])
        deeds = (("born", (1, 0), 1, "link", None, "l", ""), file(1, 1, 2, (1, 0)))
        self.placed(deeds, [((1, 0), None, "l")], [(1, 1)])

    def test_a_born_in_the_dot_of_another_deed(self):
        deeds = ROW + (put(1, 3, 4, B, None), file(1, 4, 5, (1, 3)))
        self.placed(deeds, [(A, None, "a"), (B, None, "p"), (C, B, "c")], [(1, 4)])

    def test_a_born_in_what_is_born_later(self):
        self.placed((file(1, 0, 5, (2, 0)), folder(2, 0, 6, None)), [((2, 0), None, "f")], [(1, 0)])
        deeds = (file(1, 0, 5, (2, 0)), folder(2, 0, 6, None), file(1, 1, 7, (2, 0), "y"))
        self.placed(deeds, [((1, 1), (2, 0), "y"), ((2, 0), None, "f")], [(1, 0)])

    def test_stamps_alone_do_not_tell_and_dots_alone_do_not(self):
        # Born with one stamp: the lesser LIFE is first.
        self.placed((folder(1, 0, 5, None), file(2, 0, 5, (1, 0))), [((1, 0), None, "f"), ((2, 0), (1, 0), "x")])
        self.placed((folder(2, 0, 5, None), file(1, 0, 5, (2, 0))), [((2, 0), None, "f")], [(1, 0)])
        # The lesser stamp is first, whatever the LIVES.
        self.placed((folder(2, 0, 4, None), file(1, 0, 5, (2, 0))), [((1, 0), (2, 0), "x"), ((2, 0), None, "f")])
        self.placed((folder(1, 0, 6, None), file(2, 0, 5, (1, 0))), [((1, 0), None, "f")], [(2, 0)])
        # LIVES stand as numbers, not as signs.
        self.placed((folder(9, 0, 5, None), file(10, 0, 5, (9, 0))), [((9, 0), None, "f"), ((10, 0), (9, 0), "x")])

    def test_puts(self):
        self.placed(ROW + (put(1, 3, 4, C, None, "d"),), [(A, None, "a"), (B, A, "b"), (C, None, "d")])
        self.placed(ROW + (put(1, 3, 4, B, A, "B"),), [(A, None, "a"), (B, A, "B"), (C, B, "c")])
        self.placed(ROW + (put(1, 3, 4, B, None, "b"),), [(A, None, "a"), (B, None, "b"), (C, B, "c")])

    def test_the_last_put_that_counts_tells(self):
        deeds = ROW + (put(1, 3, 4, C, A, "one"), put(2, 0, 5, C, None, "two"), put(3, 0, 4, C, B, "three"))
        self.placed(deeds, [(A, None, "a"), (B, A, "b"), (C, None, "two")])
        deeds = ROW + (put(1, 3, 4, C, A, "one"), put(2, 0, 4, C, None, "two"))
        self.placed(deeds, [(A, None, "a"), (B, A, "b"), (C, None, "two")])

    def test_a_put_ahead_of_its_born(self):
        self.placed((folder(2, 0, 5, None), put(1, 0, 4, (2, 0), None)), [((2, 0), None, "f")], [(1, 0)])
        self.placed((folder(2, 0, 5, None), put(1, 0, 5, (2, 0), None)), [((2, 0), None, "f")], [(1, 0)])
        self.placed((folder(1, 0, 5, None), put(2, 0, 5, (1, 0), None)), [((1, 0), None, "p")])

    def test_a_put_of_what_is_not_placed(self):
        self.placed((put(1, 0, 1, (5, 5), None),), (), [(1, 0)])
        deeds = (file(1, 0, 1, (9, 9)), put(1, 1, 2, (1, 0), None))
        self.placed(deeds, (), [(1, 0), (1, 1)])
        self.placed((put(1, 0, 1, (1, 0), None),), (), [(1, 0)])

    def test_a_put_into_what_is_not_placed(self):
        self.placed(ROW + (put(1, 3, 4, C, (9, 9)),), [(A, None, "a"), (B, A, "b"), (C, B, "c")], [(1, 3)])
        later = ROW + (put(1, 3, 4, C, (2, 0)), folder(2, 0, 5, None))
        self.placed(later, [(A, None, "a"), (B, A, "b"), (C, B, "c"), ((2, 0), None, "f")], [(1, 3)])

    def test_a_put_into_itself_or_what_is_within_it(self):
        rows = [(A, None, "a"), (B, A, "b"), (C, B, "c")]
        self.placed(ROW + (put(1, 3, 4, A, A),), rows, [(1, 3)])
        self.placed(ROW + (put(1, 3, 4, A, B),), rows, [(1, 3)])
        deep = ROW + (folder(1, 3, 4, B, "d"), put(1, 4, 5, A, (1, 3)), put(1, 5, 6, B, (1, 3)))
        self.placed(deep, rows + [((1, 3), B, "d")], [(1, 4), (1, 5)])

    def test_a_put_into_a_file_or_a_link(self):
        deeds = ROW + (("born", (1, 3), 4, "link", None, "l", ""), put(1, 4, 5, B, C), put(1, 5, 6, B, (1, 3)))
        self.placed(deeds, [(A, None, "a"), (B, A, "b"), (C, B, "c"), ((1, 3), None, "l")], [(1, 4), (1, 5)])

    def test_what_is_within_is_seen_as_it_is_then(self):
        # b leaves a, then a comes into b: nothing is within itself.
        deeds = ROW + (put(1, 3, 4, B, None, "b"), put(1, 4, 5, A, B, "a"))
        self.placed(deeds, [(A, B, "a"), (B, None, "b"), (C, B, "c")])

    def test_writes_and_gones_change_nothing(self):
        deeds = ROW + (("write", (1, 3), 4, C, "x", (A, B, C)), ("gone", (1, 4), 5, A, (A,)), file(1, 5, 6, A))
        self.placed(deeds, [(A, None, "a"), (B, A, "b"), (C, B, "c"), ((1, 5), A, "x")])

    def test_rings(self):
        for many in (3, 4, 5, 6):
            items = [(1, at) for at in range(many)]
            borns = tuple(folder(1, at, at + 1, None, f"f{at}") for at in range(many))
            for stamps in ([9] * many, range(9, 9 + many), range(9 + many, 9, -1), [9, 10] * 3):
                puts = [
                    put(at + 2, 0, stamp, item, items[(at + 1) % many]) for at, (item, stamp) in enumerate(zip(items, stamps))
                ]
                last = max(puts, key=lambda deed: (deed[2], deed[1]))
                rows = []
                for at, item in enumerate(items):
                    spot = (None, f"f{at}") if last[3] == item else (items[(at + 1) % many], "p")
                    rows.append((item,) + spot)
                self.placed(borns + tuple(puts), rows, [last[1]])
                heard = heard_of(*borns, *puts)
                self.assertEqual(len(chain(heard, items[(items.index(last[3]) + 1) % many])), many)

    def test_rings_in_whatever_sequence_they_are_heard(self):
        borns = tuple(folder(1, at, at + 1, None, f"f{at}") for at in range(3))
        puts = [put(at + 2, 0, 9, (1, at), (1, (at + 1) % 3)) for at in range(3)]
        told = places(heard_of(*borns, *puts))
        for order in itertools.permutations(puts):
            heard, moves = borns, Moves()
            for deed in borns + order:
                heard = hears(heard, deed)
                moves.added(deed)
            self.assertEqual(places(heard), told)
            self.assertEqual(moves.places, told)

    def test_more_heard_can_let_in_what_was_left_out(self):
        into, other = put(2, 0, 5, A, B, "a"), put(3, 0, 4, B, None, "b")
        self.placed(ROW + (into,), [(A, None, "a"), (B, A, "b"), (C, B, "c")], [(2, 0)])
        self.placed(ROW + (into, other), [(A, B, "a"), (B, None, "b"), (C, B, "c")])
        late = file(2, 0, 5, (3, 0))
        self.placed((late,), (), [(2, 0)])
        self.placed((late, folder(3, 0, 4, None)), [((2, 0), (3, 0), "x"), ((3, 0), None, "f")])

    def test_more_heard_can_leave_out_what_counted(self):
        borns = (folder(1, 0, 1, None, "a"), folder(1, 1, 2, None, "b"))
        into, other = put(2, 0, 5, A, B, "a"), put(3, 0, 4, B, A, "b")
        self.placed(borns + (into,), [(A, B, "a"), (B, None, "b")])
        self.placed(borns + (into, other), [(A, None, "a"), (B, A, "b")], [(2, 0)])

    def test_by_chance(self):
        met = 0
        for seed in range(250):
            chance = random.Random(seed)
            heard = wild(chance, chance.randint(1, 4), chance.randint(1, 22))
            placed, out = plain_heard.gone_through(heard)
            self.assertEqual(places(heard), plain_heard.places(heard))
            for deed in heard:
                if deed[0] in ("born", "put"):
                    self.assertIs(is_out(heard, deed[1]), deed[1] in out)
            for item in placed:
                above = chain(heard, item)
                self.assertEqual(above[0], item)
                self.assertEqual(len(set(above)), len(above))
                self.assertEqual([placed[one][0] for one in above], list(above[1:]) + [None])
            met += len(out)
            one, other = part(chance, heard), part(chance, heard)
            self.assertEqual(places(joined(one, other)), places(joined(other, one)))
        self.assertGreater(met, 300)


class Errors(unittest.TestCase):
    def test_dots_of_no_born_and_no_put(self):
        heard = ROW + (("write", (1, 3), 4, C, "x", ()), ("gone", (1, 4), 5, C, ()), put(1, 5, 6, C, None))
        for dot in ((1, 3), (1, 4), (1, 6), (2, 0), (1, 0, 0), [1, 0], (True, 0), (1, False), (1, None)):
            self.assertIs(raised(NoDeed, is_out, heard, dot), dot)
        for value in any_values():
            if value != (1, 0):
                self.assertIs(raised(NoDeed, is_out, heard, value), value)
        self.assertIs(is_out(heard, (1, 0)), False)
        self.assertIs(is_out(heard, (1, 5)), False)
        self.assertEqual(raised(NoDeed, is_out, (), (1, 0)), (1, 0))

    def test_items_that_are_not_placed(self):
        heard = ROW + (put(1, 3, 4, C, None), file(1, 4, 5, (9, 9)), ("write", (1, 5), 6, C, "x", ()))
        for item in ((1, 3), (1, 4), (1, 5), (1, 6), (2, 0), [1, 0], (True, 0), (1, False), None):
            self.assertIs(raised(NoItem, chain, heard, item), item)
        for value in any_values():
            if value != (1, 0):
                self.assertIs(raised(NoItem, chain, heard, value), value)
        self.assertEqual(chain(heard, (1, 2)), ((1, 2),))
        self.assertEqual(chain(ROW, C), (C, B, A))
        self.assertEqual(chain(ROW, B), (B, A))

    def test_heard_comes_first(self):
        for value in (None, [ROW], ROW[1:], list(ROW)):
            self.assertIs(raised(BadHeard, is_out, value, None), value)
            self.assertIs(raised(BadHeard, chain, value, None), value)
            self.assertIs(raised(BadHeard, places, value), value)


class Added(unittest.TestCase):
    def test_how_many_are_undone(self):
        moves = Moves()
        self.assertEqual((moves.places, moves.many), ((), 0))
        self.assertEqual(moves.added(folder(1, 0, 5, None)), 0)
        self.assertEqual(moves.added(folder(1, 1, 9, None)), 0)
        self.assertEqual(moves.added(folder(2, 0, 5, None)), 1)
        self.assertEqual(moves.added(folder(3, 0, 4, None)), 3)
        self.assertEqual(moves.added(folder(4, 0, 9, None)), 0)
        self.assertEqual(moves.added(folder(5, 0, 9, None)), 0)
        self.assertEqual(moves.added(folder(1, 7, 9, None)), 2)
        self.assertEqual(moves.added(("write", (6, 0), 1, (1, 0), "x", ())), 0)
        self.assertEqual(moves.added(("gone", (6, 1), 1, (1, 0), ((1, 0),))), 0)
        self.assertEqual(moves.added(folder(7, 0, 1, None)), 7)
        self.assertEqual(moves.many, 8)
        self.assertEqual(len(moves.places), 8)
        # What was added already.
        for deed in (folder(7, 0, 1, None), folder(1, 0, 5, None), ("gone", (6, 1), 1, (1, 0), ((1, 0),))):
            self.assertEqual(moves.added(deed), 0)
        self.assertEqual(moves.many, 8)

    def test_what_is_left_out_is_undone_and_counted_too(self):
        moves = Moves()
        self.assertEqual(moves.added(file(1, 0, 5, (2, 0))), 0)
        self.assertEqual(moves.added(put(1, 1, 6, (1, 0), None)), 0)
        self.assertEqual((moves.places, moves.many), ((), 2))
        self.assertEqual(moves.added(folder(2, 0, 4, None)), 2)
        self.assertEqual(moves.places, (((1, 0), None, "p"), ((2, 0), None, "f")))

    def test_some_of_a_life_may_lack_and_stamps_are_not_looked_at(self):
        moves = Moves()
        self.assertEqual(moves.added(file(1, 8, 3, None)), 0)
        self.assertEqual(moves.added(file(1, 2, 7, None)), 0)
        self.assertEqual(moves.added(file(1, 0, 7, None)), 1)
        self.assertEqual([row[0] for row in moves.places], [(1, 0), (1, 2), (1, 8)])

    def test_an_unlike_deed(self):
        moves = Moves()
        write = ("write", (1, 1), 2, (1, 0), "x", ())
        for deed in (folder(1, 0, 1, None), write):
            moves.added(deed)
        before = (moves.places, moves.many)
        for deed in (folder(1, 0, 1, None, "g"), put(1, 0, 1, (1, 0), None), ("gone", (1, 0), 1, (1, 0), ())):
            self.assertEqual(raised(Unlike, moves.added, deed), (1, 0))
        for deed in (write[:4] + ("y", ()), put(1, 1, 2, (1, 0), None), folder(1, 1, 2, None)):
            self.assertEqual(raised(Unlike, moves.added, deed), (1, 1))
        self.assertEqual((moves.places, moves.many), before)
        self.assertEqual(moves.added(write), 0)

    def test_what_is_no_deed(self):
        moves = Moves()
        moves.added(ROW[0])
        good = put(1, 3, 4, (1, 0), (1, 1), "p")
        for value in any_values() + bends(good) + bends(ROW[2]):
            if not plain_forms.deed(value):
                self.assertIs(raised(BadDeed, moves.added, value), value)
        self.assertEqual((moves.places, moves.many), ((((1, 0), None, "a"),), 1))

    def test_in_any_sequence_with_some_twice(self):
        for seed in range(150):
            chance = random.Random(seed)
            heard = wild(chance, chance.randint(1, 4), chance.randint(1, 20))
            deeds = list(heard) + [chance.choice(heard) for _ in range(5)]
            chance.shuffle(deeds)
            moves, so_far = Moves(), []
            for deed in deeds:
                behind = [one for one in so_far if (one[2], one[1]) > (deed[2], deed[1])]
                is_new = deed not in so_far and deed[0] in ("born", "put")
                self.assertEqual(moves.added(deed), len(behind) if is_new else 0)
                if is_new:
                    so_far.append(deed)
                self.assertEqual(moves.many, len(so_far))
                self.assertEqual(moves.places, plain_heard.places(so_far))
            self.assertEqual(moves.places, places(heard))

    def test_as_they_are_heard(self):
        for seed in range(60):
            chance = random.Random(seed)
            moves, heard = Moves(), ()
            for deed in shuffled(chance, wild(chance, 3, 15)):
                heard = hears(heard, deed)
                moves.added(deed)
                self.assertEqual(moves.places, places(heard))

    def test_moves_are_apart_from_one_another(self):
        one, other = Moves(), Moves()
        one.added(ROW[0])
        self.assertEqual((other.places, other.many), ((), 0))
