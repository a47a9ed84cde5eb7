"""The gate: what comes in, when, and in which sequence."""

import random
import unittest

from allonetree.deeds import deed_text
from allonetree.errors import BadDeed, BadLetter, Early, Unlike
from allonetree.hearing import joined
from allonetree.lettering import Gate, answers, ask_letter
from tests import plain_forms, plain_letters
from tests.chances import part, sensible, some_deed, wild
from tests.test_letters import with_texts
from tests.values import any_values, bends, raised

FOLDER, FILE = (1, 0), (1, 1)
MADE = ("born", FOLDER, 1, "folder", None, "f", "")
BORN = ("born", FILE, 2, "file", FOLDER, "a", "")
FIRST = ("write", (1, 2), 3, FILE, "some words", ())
SECOND = ("write", (1, 3), 4, FILE, "some words more", ((1, 2),))
ALL = (MADE, BORN, FIRST, SECOND)


def deeds(*told):
    return "\n".join(["deeds"] + [deed_text(deed) for deed in told])


def mapped(write, base, *pieces):
    covers = ",".join("%d.%d" % dot for dot in write[5]) or "-"
    head = "map %d.%d %d %d.%d" % (write[1] + write[2:3] + write[3])
    return "\n".join([head + " %s %d.%d" % ((covers,) + base)] + [plain_letters.map_text((one,)) for one in pieces])


MAPPED = mapped(SECOND, (1, 2), ("copy", 0, 10), ("text", " more"))


class Cases(unittest.TestCase):
    def setUp(self):
        self.gate = Gate(())

    def takes(self, letter, came, waiting=()):
        ahead = self.gate.heard
        found = self.gate.take(letter)
        self.assertEqual(found, tuple(came))
        self.assertEqual(self.gate.heard, tuple(sorted(ahead + found, key=lambda deed: deed[1])))
        self.assertEqual(self.gate.waiting, tuple(waiting))

    def begun(self, *heard):
        self.gate = Gate(tuple(heard))
        self.assertEqual((self.gate.heard, self.gate.waiting), (tuple(heard), ()))


class Turns(Cases):
    def test_all_at_once(self):
        self.takes(deeds(*ALL), ALL)

    def test_ahead_of_their_turn(self):
        self.takes(deeds(SECOND), (), [(1, 3)])
        self.takes(deeds(BORN), (), [(1, 1), (1, 3)])
        self.takes(deeds(MADE), (MADE, BORN), [(1, 3)])
        self.takes(deeds(FIRST), (FIRST, SECOND))

    def test_each_letter_again(self):
        for letter, waiting in ((deeds(FIRST, SECOND), [(1, 2), (1, 3)]), (deeds(BORN), [(1, 1), (1, 2), (1, 3)])):
            for _ in range(3):
                self.takes(letter, (), waiting)
        self.takes(deeds(MADE, BORN), ALL)
        for letter in (deeds(FIRST, SECOND), deeds(BORN), deeds(*ALL), MAPPED, "ask", "ask 1:2"):
            self.takes(letter, ())

    def test_what_is_in_already_and_what_is_not(self):
        self.begun(MADE, BORN)
        self.takes(deeds(*ALL), (FIRST, SECOND))

    def test_an_ask_changes_nothing(self):
        self.takes(deeds(BORN), (), [(1, 1)])
        self.takes("ask 1:1", (), [(1, 1)])
        self.takes("ask", (), [(1, 1)])

    def test_lives_wait_by_themselves(self):
        other = ("born", (2, 0), 9, "link", None, "l", "to")
        self.takes(deeds(BORN), (), [(1, 1)])
        self.takes(deeds(other), (other,), [(1, 1)])


class Births(Cases):
    def test_of_the_item(self):
        for deed in (
            ("put", (2, 0), 5, FILE, None, "b"),
            ("write", (2, 0), 5, FILE, "x", ()),
            ("gone", (2, 0), 5, FILE, ((1, 1),)),
        ):
            self.begun(MADE)
            self.takes(deeds(deed), (), [(2, 0)])
            self.takes(deeds(BORN), (BORN, deed))

    def test_of_the_parent(self):
        for deed in (
            ("born", (2, 0), 5, "file", FILE, "b", ""),
            ("born", (2, 0), 5, "folder", FILE, "b", ""),
            ("put", (2, 0), 5, FOLDER, FILE, "b"),
        ):
            self.begun(MADE)
            self.takes(deeds(deed), (), [(2, 0)])
            # A born that is no folder's, too.
            self.takes(deeds(BORN), (BORN, deed))

    def test_without_a_parent(self):
        self.begun(MADE)
        put = ("put", (2, 0), 5, FOLDER, None, "b")
        self.takes(deeds(put), (put,))

    def test_item_and_parent_both(self):
        folder, file = ("born", (3, 0), 1, "folder", None, "a", ""), ("born", (4, 0), 1, "file", None, "a", "")
        put = ("put", (2, 0), 5, (4, 0), (3, 0), "b")
        self.takes(deeds(put), (), [(2, 0)])
        self.takes(deeds(folder), (folder,), [(2, 0)])
        self.takes(deeds(file), (file, put))

    def test_what_a_born_is(self):
        # A DEED with the DOT is in, but is no born: so it waits for ever.
        self.begun(MADE, BORN, FIRST)
        for deed in (("write", (2, 0), 5, (1, 2), "x", ()), ("born", (2, 0), 5, "file", (1, 2), "x", "")):
            self.begun(MADE, BORN, FIRST)
            self.takes(deeds(deed), (), [(2, 0)])
            self.takes(deeds(SECOND), (SECOND,), [(2, 0)])

    def test_covers_are_not_waited_for(self):
        gone = ("gone", (2, 0), 5, FOLDER, ((1, 0), (9, 9)))
        self.begun(MADE)
        self.takes(deeds(gone), (gone,))

    def test_of_itself(self):
        deed = ("born", (2, 0), 5, "folder", (2, 0), "a", "")
        self.takes(deeds(deed), (), [(2, 0)])

    def test_what_is_behind_waits_with_it(self):
        deed, next_one = ("put", (2, 0), 5, FOLDER, None, "b"), ("born", (2, 1), 6, "folder", None, "c", "")
        self.takes(deeds(deed, next_one), (), [(2, 0), (2, 1)])
        self.takes(deeds(MADE), (MADE, deed, next_one))

    def test_the_least_dot_first(self):
        puts = [("put", (life, 0), 5, FOLDER, None, "b") for life in (9, 3, 5, 12)]
        more = ("put", (3, 1), 6, FOLDER, None, "c")
        for put in puts:
            self.gate.take(deeds(put))
        self.takes(deeds(more), (), [(3, 0), (3, 1), (5, 0), (9, 0), (12, 0)])
        self.takes(deeds(MADE), (MADE, puts[1], more, puts[2], puts[0], puts[3]))

    def test_each_time_the_least_of_those_that_can(self):
        # What comes in lets a lesser one in, which is next.
        first = ("born", (5, 0), 1, "folder", None, "a", "")
        last = ("born", (7, 0), 1, "folder", (5, 0), "b", "")
        put = ("put", (2, 0), 5, (7, 0), None, "b")
        other = ("put", (8, 0), 5, (5, 0), None, "b")
        for deed in (put, last, other):
            self.gate.take(deeds(deed))
        self.takes(deeds(first), (first, last, put, other))


class Stamps(Cases):
    def test_a_stamp_that_is_not_above_the_one_ahead(self):
        late = ("write", (1, 2), 2, FILE, "x", ())
        self.takes(deeds(late), (), [(1, 2)])
        self.takes(deeds(SECOND), (), [(1, 2), (1, 3)])
        # It goes, it alone; told again it goes again.
        self.takes(deeds(MADE, BORN), (MADE, BORN), [(1, 3)])
        self.takes(deeds(late), (), [(1, 3)])
        # Another one with its DOT is no unlike one now.
        self.takes(deeds(FIRST), (FIRST, SECOND))

    def test_at_once(self):
        self.begun(MADE, BORN)
        for stamp in (1, 2):
            self.takes(deeds(("write", (1, 2), stamp, FILE, "x", ())), ())
        self.takes(deeds(("write", (1, 2), 3, FILE, "x", ())), (("write", (1, 2), 3, FILE, "x", ()),))

    def test_it_stays_while_it_could_not_come_in(self):
        late = ("put", (1, 2), 1, (5, 5), None, "x")
        self.begun(MADE, BORN)
        self.takes(deeds(late), (), [(1, 2)])
        self.assertEqual(raised(Unlike, self.gate.take, deeds(FIRST)), (1, 2))


class Maps(Cases):
    def test_ahead_of_their_base(self):
        self.takes(MAPPED, (), [(1, 3)])
        self.takes(deeds(MADE, BORN), (MADE, BORN), [(1, 3)])
        self.takes(MAPPED, (), [(1, 3)])
        self.takes(deeds(FIRST), (FIRST, SECOND))
        self.takes(MAPPED, ())

    def test_at_once(self):
        self.begun(MADE, BORN, FIRST)
        self.takes(MAPPED, (SECOND,))
        self.begun(MADE, BORN, FIRST)
        empty = SECOND[:4] + ("", ())
        self.takes(mapped(empty, (1, 2)), (empty,))

    def test_ahead_of_their_item(self):
        base = ("write", (5, 1), 9, (5, 0), "words", ())
        self.begun(("born", (5, 0), 1, "file", None, "a", ""), base)
        write = ("write", (2, 0), 3, FOLDER, "words", ())
        self.takes(mapped(write, (5, 1), ("copy", 0, 5)), (), [(2, 0)])
        self.takes(deeds(MADE), (MADE, write))

    def test_ahead_of_their_turn(self):
        self.begun(MADE, BORN, FIRST)
        third = ("write", (1, 4), 9, FILE, "some", ())
        self.takes(mapped(third, (1, 2), ("copy", 0, 4)), (), [(1, 4)])
        self.takes(deeds(SECOND), (SECOND, third))

    def test_a_base_of_another_item_does(self):
        self.begun(MADE, BORN, FIRST)
        write = ("write", (2, 0), 9, FOLDER, "some", ())
        self.takes(mapped(write, (1, 2), ("copy", 0, 4)), (write,))

    def test_a_base_that_is_no_write(self):
        for base in (FOLDER, FILE):
            self.begun(MADE, BORN, FIRST)
            self.takes(mapped(SECOND, base), ())
            self.takes(mapped(SECOND, base, ("text", "x")), ())
            self.takes(deeds(SECOND), (SECOND,))

    def test_a_map_that_does_not_fit(self):
        self.begun(MADE, BORN, FIRST)
        for pieces in (
            [("copy", 0, 11)],
            [("copy", 10, 1)],
            [("text", "x" * 391), ("copy", 0, 10)],
            [("text", "x" * 400), ("text", "x")],
        ):
            self.takes(mapped(SECOND, (1, 2), *pieces), ())
        long = SECOND[:4] + ("x" * 390 + FIRST[4],) + SECOND[5:]
        self.takes(mapped(SECOND, (1, 2), ("text", "x" * 390), ("copy", 0, 10)), (long,))

    def test_a_stamp_that_is_not_above(self):
        self.begun(MADE, BORN, FIRST)
        for stamp in (1, 3):
            self.takes(mapped(SECOND[:2] + (stamp,) + SECOND[3:], (1, 2), ("text", "x")), ())
        self.takes(MAPPED, (SECOND,))

    def test_they_go_alone(self):
        self.begun(MADE, BORN)
        later = ("write", (1, 4), 9, FILE, "", ())
        bad = mapped(SECOND, (1, 2), ("copy", 0, 400))
        for letter in (bad, mapped(SECOND, FILE), deeds(later)):
            self.gate.take(letter)
        # Of the DOT another map is left: it tells of a base that isn't in.
        other = ("write", (4, 0), 3, FILE, "other words", ())
        by_other = mapped(SECOND, (4, 0), ("copy", 0, 5))
        self.gate.take(by_other)
        self.assertEqual(self.gate.waiting, ((1, 3), (1, 4)))
        self.takes(deeds(FIRST), (FIRST,), [(1, 3), (1, 4)])
        self.takes(deeds(other), (other, SECOND[:4] + ("other",) + SECOND[5:], later))

    def test_until_they_could_come_in_they_wait(self):
        bad = mapped(SECOND, FOLDER)
        self.begun(MADE, BORN)
        # A map whose base is in, and no write: it's not its turn.
        self.takes(bad, (), [(1, 3)])
        self.takes(deeds(FIRST), (FIRST,))

    def test_its_own_dot_for_a_base(self):
        self.begun(MADE, BORN, FIRST)
        self.takes(mapped(SECOND, (1, 3)), (), [(1, 3)])
        self.takes(MAPPED, (SECOND,))


class Several(Cases):
    """Several maps of one DOT, and what a `deeds` letter tells of it."""

    def three(self, *letters):
        self.begun(MADE, BORN)
        for letter in letters:
            self.gate.take(letter)
        self.assertEqual(self.gate.waiting, ((1, 3),))
        came = self.gate.take(deeds(FIRST))
        self.assertEqual(self.gate.waiting, ())
        self.assertEqual(len(came), 2)
        return came[1]

    def test_a_deed_ahead_of_maps(self):
        other = ("write", (1, 3), 5, FILE, "zzz", ())
        for letters in ((MAPPED, deeds(other)), (deeds(other), MAPPED)):
            self.assertEqual(self.three(*letters), other)

    def test_a_deed_that_cannot_come_in(self):
        waits = ("write", (1, 3), 5, (6, 6), "zzz", ())
        late = ("write", (1, 3), 3, FILE, "zzz", ())
        for other in (waits, late):
            for letters in ((MAPPED, deeds(other)), (deeds(other), MAPPED)):
                self.assertEqual(self.three(*letters), SECOND)

    def test_the_least_base(self):
        self.begun(MADE, BORN, ("write", (1, 2), 3, FILE, "aaaa", ()))
        bases = [("write", (life, 0), 3, FILE, "bb", ()) for life in (4, 2)]
        for base in bases:
            self.gate.take(deeds(base))
        write = ("write", (7, 1), 9, FILE, "", ())
        for dot, pieces in (((4, 0), ()), ((2, 0), (("text", "z"),)), ((1, 2), (("text", "zz"),))):
            self.gate.take(mapped(write, dot, *pieces))
        came = self.gate.take(deeds(("put", (7, 0), 1, FILE, None, "x")))
        self.assertEqual(came[1][4], "zz")

    def test_the_least_map_then_the_least_write(self):
        early, late = SECOND[:4] + ("", ()), ("write", (1, 3), 5, FILE, "", ())
        covering = ("write", (1, 3), 4, FILE, "", ((1, 2),))
        copy, text = ("copy", 0, 4), ("text", "s")
        for letters, found in (
            ((mapped(late, (1, 2)), mapped(early, (1, 2), copy)), late),
            ((mapped(early, (1, 2), text), mapped(late, (1, 2), copy)), late[:4] + ("some", ())),
            ((mapped(early, (1, 2), copy, text), mapped(late, (1, 2), copy)), late[:4] + ("some", ())),
            ((mapped(early, (1, 2), ("copy", 1, 1)), mapped(late, (1, 2), copy)), late[:4] + ("some", ())),
            ((mapped(late, (1, 2), copy), mapped(early, (1, 2), copy)), early[:4] + ("some", ())),
            ((mapped(covering, (1, 2), copy), mapped(early, (1, 2), copy)), early[:4] + ("some", ())),
            ((mapped(late, (1, 2), copy), mapped(covering, (1, 2), copy)), covering[:4] + ("some", ((1, 2),))),
        ):
            self.assertEqual(self.three(*letters), found)
            self.assertEqual(self.three(*letters[::-1]), found)

    def test_the_least_that_can(self):
        # The least one does not fit, the next one's base isn't in.
        bad, far = mapped(SECOND, (1, 0)), mapped(SECOND, (1, 1), ("text", "x"))
        self.assertEqual(self.three(bad, far, MAPPED), SECOND)
        self.begun(MADE, BORN, FIRST)
        self.takes(mapped(SECOND, (9, 9)), (), [(1, 3)])
        self.takes(MAPPED, (SECOND,))

    def test_items_that_are_not_born(self):
        other = ("write", (1, 3), 1000, (6, 0), "", ())
        self.assertEqual(self.three(mapped(other, (1, 2)), MAPPED), SECOND)


class UnlikeOnes(Cases):
    def refused(self, letter, dot):
        before = (self.gate.heard, self.gate.waiting)
        self.assertEqual(raised(Unlike, self.gate.take, letter), dot)
        self.assertEqual((self.gate.heard, self.gate.waiting), before)

    def test_beside_what_is_in(self):
        self.begun(*ALL)
        unlike = FIRST[:4] + ("other",) + FIRST[5:]
        self.refused(deeds(unlike), (1, 2))
        self.refused(deeds(BORN, unlike, SECOND), (1, 2))
        self.refused(deeds(BORN[:5] + ("b", ""), unlike, SECOND), (1, 1))

    def test_beside_what_waits(self):
        self.takes(deeds(FIRST, SECOND), (), [(1, 2), (1, 3)])
        unlike = SECOND[:2] + (5,) + SECOND[3:]
        self.refused(deeds(unlike), (1, 3))
        self.refused(deeds(FIRST, unlike), (1, 3))

    def test_nothing_is_changed(self):
        # The letter's others would let much come in.
        self.takes(deeds(SECOND), (), [(1, 3)])
        self.refused(deeds(MADE, BORN, FIRST, SECOND[:4] + ("x", ())), (1, 3))
        self.takes(deeds(FIRST), (), [(1, 2), (1, 3)])
        self.takes(deeds(MADE, BORN), ALL)

    def test_the_first_in_the_letter(self):
        self.begun(MADE)
        self.takes(deeds(FIRST, SECOND), (), [(1, 2), (1, 3)])
        self.refused(deeds(BORN, FIRST[:4] + ("", ()), SECOND[:4] + ("", ())), (1, 2))

    def test_maps_are_never_unlike(self):
        self.begun(*ALL)
        self.takes(mapped(SECOND, (1, 2), ("text", "x")), ())
        self.begun(MADE, BORN)
        self.takes(deeds(SECOND), (), [(1, 3)])
        self.takes(mapped(SECOND, (1, 2), ("text", "x")), (), [(1, 3)])
        self.takes(mapped(SECOND, (1, 1), ("text", "x")), (), [(1, 3)])
        self.takes(deeds(FIRST), (FIRST, SECOND))


class Hearing(Cases):
    def hears(self, deed, came, waiting=()):
        ahead = self.gate.heard
        found = self.gate.hear(deed)
        self.assertEqual(found, tuple(came))
        self.assertEqual(self.gate.heard, tuple(sorted(ahead + found, key=lambda one: one[1])))
        self.assertEqual(self.gate.waiting, tuple(waiting))

    def test_one_after_the_other(self):
        for deed in ALL:
            self.hears(deed, (deed,))
        for deed in ALL:
            self.hears(deed, ())

    def test_what_waits_for_it(self):
        puts = [("put", (life, 0), 5, FILE, None, "b") for life in (9, 3)]
        for put in puts:
            self.gate.take(deeds(put))
        self.hears(MADE, (MADE,), [(3, 0), (9, 0)])
        self.hears(BORN, (BORN, puts[1], puts[0]))

    def test_own_deeds_do_not_wait_for_births(self):
        for deed in (BORN[:1] + ((1, 0),) + BORN[2:4] + ((8, 8), "a", ""), FIRST[:1] + ((2, 0),) + FIRST[2:]):
            self.begun()
            self.hears(deed, (deed,))

    def test_what_waits_with_its_dot_goes(self):
        self.begun(MADE, BORN)
        other = ("write", (1, 3), 9, (6, 0), "told otherwise", ())
        for letter in (deeds(other), mapped(SECOND, (4, 0)), mapped(SECOND, (4, 1))):
            self.gate.take(letter)
        self.hears(FIRST, (FIRST,), [(1, 3)])
        self.hears(SECOND, (SECOND,))
        # Also when what waited could have come in behind it.
        born, base = ("born", (6, 0), 1, "file", None, "b", ""), ("write", (4, 0), 1, FILE, "x", ())
        self.takes(deeds(born), (born,))
        self.takes(deeds(base), (base,))

    def test_early_and_unlike(self):
        self.begun(MADE, BORN)
        self.assertEqual(raised(Early, self.gate.hear, SECOND), (1, 2))
        self.assertEqual(raised(Early, self.gate.hear, ("gone", (5, 3), 1, FILE, ())), (5, 0))
        self.assertEqual(raised(Unlike, self.gate.hear, BORN[:5] + ("b", "")), (1, 1))
        for stamp in (1, 2):
            late = FIRST[:2] + (stamp,) + FIRST[3:]
            self.assertIs(raised(BadDeed, self.gate.hear, late), late)
        self.assertEqual((self.gate.heard, self.gate.waiting), ((MADE, BORN), ()))
        # What waits makes no DEED unlike, and none early.
        self.takes(deeds(SECOND), (), [(1, 3)])
        self.assertEqual(raised(Early, self.gate.hear, SECOND), (1, 2))
        self.gate.hear(FIRST[:4] + ("other", ()))
        self.assertEqual(self.gate.waiting, ())

    def test_a_deed_that_waits(self):
        put = ("put", (2, 0), 5, FILE, None, "b")
        self.begun(MADE)
        self.takes(deeds(put), (), [(2, 0)])
        self.hears(put, (put,))

    def test_values_that_are_no_deeds(self):
        for value in any_values() + bends(FIRST):
            if not plain_forms.deed(value):
                self.assertIs(raised(BadDeed, self.gate.hear, value), value)

    def test_by_name(self):
        gate = Gate(heard=())
        self.assertEqual(gate.hear(deed=MADE), (MADE,))
        self.assertEqual(gate.take(letter=deeds(BORN)), (BORN,))


class Walks(unittest.TestCase):
    def letters(self, chance, heard, begun):
        """Letters of all kinds, most of them of these DEEDS."""
        found = list(answers(heard, ask_letter(begun), chance.randint(1, 6)))
        for _ in range(chance.choice((0, 0, 2))):
            found += answers(heard, ask_letter(part(chance, heard, 20)), chance.randint(1, 6))
        writes = [deed for deed in heard if deed[0] == "write"]
        for _ in range(6):
            if writes:
                write, base = chance.choice(writes), chance.choice(chance.choice((writes, list(heard))))[1]
                stamp = write[2] + chance.choice((0, 0, -1, 1))
                pieces = [("copy", 0, chance.randint(1, 8)) for _ in range(chance.randint(0, 2))]
                found.append(mapped(write[:2] + (max(1, stamp),) + write[3:], base, *pieces))
        for _ in range(4 if heard else 0):
            at = chance.randrange(len(heard))
            run = [deed for deed in heard[at : at + 3] if deed[1][0] == heard[at][1][0]]
            if chance.random() < 0.3:
                run[-1] = run[-1][:2] + (run[-1][2] + 1,) + run[-1][3:]
            found.append(deeds(*run))
        found.append("ask")
        chance.shuffle(found)
        return found + [letter for letter in found if chance.random() < 0.3]

    def test_beside_a_second_gate(self):
        met = {"came": 0, "unlike": 0, "heard": 0, "waits": 0, "mapped": 0}
        for seed in range(300):
            chance = random.Random(seed)
            heard = sensible(chance) if seed % 2 else with_texts(chance, wild(chance, 3, 24))
            begun = part(chance, heard, 20)
            gate, other = Gate(begun), plain_letters.Gate(begun)
            for letter in self.letters(chance, heard, begun):
                if chance.random() < 0.08:
                    life = chance.choice((1, 7, 8) if seed % 4 else (7, 8))
                    own = [deed for deed in gate.heard if deed[1][0] == life]
                    stamp = own[-1][2] + 1 if own else 1
                    items = [(deed[1], "file") for deed in heard if deed[0] == "born"]
                    deed = some_deed(chance, (life, len(own)), stamp, items, [one[1] for one in heard])
                    self.assertEqual(gate.hear(deed), other.hear(deed))
                    met["heard"] += 1
                said = other.take(letter)
                if len(said) == 2 and plain_forms.dot(said):
                    self.assertEqual(raised(Unlike, gate.take, letter), said)
                    met["unlike"] += 1
                else:
                    self.assertEqual(gate.take(letter), said)
                    met["came"] += len(said)
                    met["mapped"] += letter.startswith("map") and said != ()
                self.assertEqual((gate.heard, gate.waiting), (other.heard, other.waiting))
                met["waits"] += len(gate.waiting)
                self.assertTrue(plain_forms.heard(gate.heard))
        self.assertTrue(all(many > 50 for many in met.values()), met)

    def test_letters_lost_doubled_and_late(self):
        """In whatever sequence, some twice, some asked for again: all that lacks comes in."""
        rounds = {}
        for seed in range(120):
            chance = random.Random(seed)
            heard = sensible(chance)
            gate = Gate(part(chance, heard))
            late = []
            for lap in range(60):
                if gate.heard == heard:
                    break
                letters = list(answers(heard, ask_letter(gate.heard), chance.randint(1, 20)))
                sent = [letter for letter in letters if chance.random() < 0.6]
                late += [letter for letter in sent if chance.random() < 0.3]
                sent += [letter for letter in late if chance.random() < 0.3]
                chance.shuffle(sent)
                for letter in sent:
                    gate.take(letter)
                    self.assertEqual(joined(gate.heard, heard), heard)
            self.assertEqual((gate.heard, gate.waiting), (heard, ()))
            rounds[lap] = rounds.get(lap, 0) + 1
        self.assertGreater(len(rounds), 4)

    def test_whatever_the_sequence(self):
        for seed in range(120):
            chance = random.Random(seed)
            heard = sensible(chance)
            letters = []
            for _ in range(3):
                letters += answers(heard, ask_letter(part(chance, heard)), chance.randint(1, 4))
            letters = [letter for letter in letters if chance.random() < 0.7]
            found = []
            for _ in range(4):
                gate = Gate(())
                order = letters + [letter for letter in letters if chance.random() < 0.3]
                chance.shuffle(order)
                for letter in order:
                    gate.take(letter)
                found.append((gate.heard, gate.waiting))
            self.assertEqual(found[1:], found[:1] * 3)

    def test_gates_do_not_share(self):
        heard = sensible(random.Random(1))
        one, other = Gate(heard[:0]), Gate(heard[:0])
        one.take(answers(heard, "ask", 9)[0])
        self.assertEqual((other.heard, other.waiting), ((), ()))
        self.assertEqual(raised(BadLetter, one.take, "deeds"), "deeds")
