"""Letters: which texts are letters, and what is answered."""

import random
import unittest

from allonetree.errors import BadHeard, BadLetter, BadNumber
from allonetree.hearing import lacks
from allonetree.lettering import Gate, answers, ask_letter
from allonetree.letters import read_letter
from allonetree.mapping import cost, map_of
from tests import plain_forms, plain_letters
from tests.chances import part, wild
from tests.values import any_values, bends, raised

BORN = "born 7.0 1 file root a"
WRITE = "write 7.1 2 7.0 - =the text"
GONE = "gone 7.2 5 7.0 7.1"
DEEDS = ("deeds", BORN, WRITE, GONE)
MAPPED = ("map 7.3 6 7.0 7.1,7.2 7.1", "copy 0 4", "text other")

GOOD = (
    "ask",
    "ask 7:3",
    "ask 1:1 2:1 1000000:999999999",
    "deeds\n" + BORN,
    "\n".join(DEEDS),
    "deeds\n" + GONE,
    "deeds\n" + WRITE + "  ",
    "deeds\nwrite 7.1 2 7.0 - =",
    "deeds\nborn 7.0 1 link root a =",
    "\n".join(MAPPED),
    MAPPED[0],
    "map 7.3 6 7.0 - 7.3",
    MAPPED[0] + "\ntext  ",
    MAPPED[0] + "\n" + "\n".join(["copy 0 400"] * 3),
)

BAD = (
    # No letter at all.
    "",
    " ",
    "\n",
    "asks",
    "Ask",
    "ask\n",
    "ask\nask",
    "\nask",
    " ask",
    "ask ",
    "answer 7:3",
    # Asks.
    "ask 7:3 ",
    "ask  7:3",
    "ask 7:3\n",
    "ask 7:3  8:1",
    "ask 8:1 7:3",
    "ask 7:3 7:3",
    "ask 7:0",
    "ask 0:1",
    "ask 1000001:1",
    "ask 07:3",
    "ask 7:03",
    "ask +7:3",
    "ask 7:-3",
    "ask 7",
    "ask 7:",
    "ask :3",
    "ask 7:3:1",
    "ask 7.3",
    "ask 7:a",
    "ask 7:3,8:1",
    "ask -",
    "ask \u0661:1",
    # Deeds.
    "deeds",
    "deeds\n",
    "deeds \n" + BORN,
    " deeds\n" + BORN,
    "deed\n" + BORN,
    "deeds " + BORN,
    "deeds\n" + BORN + "\n",
    "deeds\n\n" + BORN,
    "deeds\n" + BORN + " ",
    "deeds\n" + BORN + "\n" + BORN,
    "deeds\n" + WRITE + "\n" + BORN,
    "deeds\n" + BORN + "\n" + GONE,
    "deeds\n" + BORN + "\nwrite 8.1 2 7.0 - =",
    "deeds\n" + BORN + "\nwrite 7.1 1 7.0 - =",
    "deeds\nborn 7.0 3 file root a\n" + WRITE,
    "deeds\n" + BORN + "\nwrite 7.1 2 7.0 =",
    "deeds\nask",
    "deeds\n" + MAPPED[0],
    # Maps.
    "map",
    "map ",
    "map\n" + MAPPED[1],
    MAPPED[0] + " ",
    MAPPED[0] + "\n",
    MAPPED[0] + "\n\n" + MAPPED[1],
    MAPPED[0] + "\n" + MAPPED[1] + "\n",
    MAPPED[0] + "\n" + MAPPED[1] + " ",
    MAPPED[0] + "\ntext ",
    MAPPED[0] + "\ntext",
    MAPPED[0] + "\ncopy 0 0",
    MAPPED[0] + "\ncopy 1 400",
    MAPPED[0] + "\ncopy 0 1 1",
    MAPPED[0] + "\n" + BORN,
    MAPPED[0] + " 7.1",
    MAPPED[0].replace("map ", "map  "),
    MAPPED[0].replace("map", "Map"),
    "map 7.3 6 7.0 7.1",
    "map 7.3 6 7.0 7.2,7.1 7.1",
    "map 7.3 6 7.0 7.1,7.1 7.1",
    "map 7.3 6 7.0 7.1, 7.1",
    "map 7.3 6 7.0 -,7.1 7.1",
    "map 7.3 6 7.0 - -",
    "map 7.3 6 7.0 - root",
    "map 7.3 6 7.0 - 7",
    "map 7.3 6 7.0 - 7.1.1",
    "map 7.3 6 root - 7.1",
    "map 7.3 0 7.0 - 7.1",
    "map 7.3 06 7.0 - 7.1",
    "map 7.3 -6 7.0 - 7.1",
    "map 0.3 6 7.0 - 7.1",
    "map 7.03 6 7.0 - 7.1",
    "map 7.3 6 7 - 7.1",
    "map 7.3 6 7.0 - 0.1",
    "map 7.3 6 7.0 - 7.1,7.2",
    "map 7.3 6 7.0 - =x",
)


class Forms(unittest.TestCase):
    def test_letters(self):
        for letter in GOOD:
            self.assertIsNotNone(plain_letters.read_letter(letter), letter)
            Gate(()).take(letter)
        for letter in GOOD:
            if letter.startswith("ask"):
                self.assertEqual(answers((), letter, 1), ())
            else:
                self.assertIs(raised(BadLetter, answers, (), letter, 1), letter)

    def test_what_is_no_letter(self):
        self.assertEqual(len(set(BAD)), len(BAD))
        for letter in BAD:
            self.assertIsNone(plain_letters.read_letter(letter), letter)
            self.bad(letter)

    def bad(self, letter):
        gate = Gate(())
        gate.take(GOOD[3])
        before = (gate.heard, gate.waiting)
        self.assertIs(raised(BadLetter, gate.take, letter), letter)
        self.assertEqual((gate.heard, gate.waiting), before)
        self.assertIs(raised(BadLetter, answers, (), letter, 1), letter)

    def test_any_value(self):
        for value in any_values() + [[], list(DEEDS), DEEDS, MAPPED, ("ask",), b"ask"]:
            self.bad(value)

    def test_letters_that_are_bent(self):
        """One sign otherwise, beside a second reading."""
        chance = random.Random(5)
        met = [0, 0]
        for _ in range(4000):
            letter = chance.choice(GOOD)
            at = chance.randint(0, len(letter))
            signs = chance.choice(("", " ", "\n", "0", "1", "7", ".", ":", ",", "-", "=", "a", "\t", "\u00e4", "~"))
            letter = letter[:at] + signs + letter[at + chance.randint(0, 1) :]
            said = plain_letters.read_letter(letter)
            met[said is None] += 1
            if said is None:
                self.bad(letter)
            else:
                self.assertEqual(read_letter(letter)[0], said[0])
                Gate(()).take(letter)
        self.assertGreater(min(met), 500)

    def test_what_letters_tell(self):
        self.assertEqual(read_letter("ask 1:2 7:3"), ("ask", ((1, 2), (7, 3))))
        said = read_letter("\n".join(DEEDS))
        self.assertEqual(said, plain_letters.read_letter("\n".join(DEEDS)))
        mapped = ((7, 3), (7, 1), (("copy", 0, 4), ("text", "other")), 6, (7, 0), ((7, 1), (7, 2)))
        self.assertEqual(read_letter("\n".join(MAPPED)), ("map", mapped))


class Asking(unittest.TestCase):
    def test_vectors(self):
        self.assertEqual(ask_letter(()), "ask")
        for seed in range(40):
            heard = wild(random.Random(seed), 4, 12)
            self.assertEqual(ask_letter(heard), plain_letters.ask_letter(heard))
            self.assertEqual(ask_letter(heard=heard), ask_letter(heard))

    def test_what_is_no_set(self):
        good = wild(random.Random(1), 2, 6)
        for value in any_values() + bends(good):
            if not plain_forms.heard(value):
                self.assertIs(raised(BadHeard, ask_letter, value), value)
                self.assertIs(raised(BadHeard, Gate, value), value)
                self.assertIs(raised(BadHeard, answers, value, "ask", 1), value)
                self.assertIs(raised(BadHeard, answers, value, None, None), value)


ITEM = (1, 0)
START = ("born", ITEM, 1, "file", None, "a", "")


def write(dot, stamp, text, *covers, item=ITEM):
    return ("write", dot, stamp, item, text, covers)


def words(letters):
    """What each letter has: "map", or how many DEEDS."""
    return [letter.count("\n") if letter.startswith("deeds") else "map" for letter in letters]


class Answers(unittest.TestCase):
    def answered(self, heard, letter, most):
        found = answers(heard, letter, most)
        self.assertEqual(found, plain_letters.answers(heard, letter, most, map_of))
        self.assertEqual(answers(most=most, letter=letter, heard=heard), found)
        return found

    def test_nothing_lacks(self):
        for heard in ((), (START,)):
            for letter in (ask_letter((START,)), "ask 1:9", "ask 1:1 2:5"):
                self.assertEqual(self.answered(heard, letter, 5), ())
        self.assertEqual(self.answered((), "ask", 1), ())

    def test_as_many_in_one_as_can_be(self):
        heard = tuple(("born", (2, number), 5 + number, "folder", None, "a", "") for number in range(41))
        other = tuple(("put", (3, number), 3 + number, ITEM, None, "b") for number in range(3))
        for most in range(1, 21):
            sizes = words(self.answered(heard, "ask", most))
            self.assertEqual(sizes, [most] * (41 // most) + [41 % most] * (41 % most > 0))
            # Each LIFE by itself.
            both = words(self.answered(heard + other, "ask 2:38", most))
            one = [min(3, most)] + ([3 - most] if most < 3 else [])
            one = [1, 1, 1] if most == 1 else one
            self.assertEqual(both, one * 2)
        self.assertEqual(words(self.answered(heard, "ask 2:40", 20)), [1])

    def test_numbers_that_cannot_be(self):
        for most in any_values() + [0, 21, -1, 999999999, 20.5, "5"]:
            if not plain_forms.whole(most, 1, 20):
                self.assertIs(raised(BadNumber, answers, (START,), "ask", most), most)
                self.assertIs(raised(BadLetter, answers, (START,), "deeds", most), "deeds")

    def test_a_map_if_it_costs_less_than_the_signs(self):
        old = "abcdefghijklmnopqrstuvwxyz"
        for new, by_map in (
            (old, True),
            # A copy costs 6.
            ("abcdefg", True),
            ("abcdef", False),
            ("abcde", False),
            # With a text of two signs 10.
            ("abcdefghiXY", True),
            ("abcdefghXY", False),
            ("abcdefgXY", False),
            # Three pieces: 6 + 4 + 6.
            ("abcdefghXYlmnopqr", True),
            ("abcdefghXYlmnopq", False),
            ("abcdefghXYlmnop", False),
            ("", False),
            ("X", False),
            ("XXXXXXXXXXXXXXXXXXXX", False),
        ):
            heard = (START, write((1, 1), 2, old), write((1, 2), 3, new, (1, 1)))
            least = plain_letters.least_cost(old, new)
            self.assertEqual(least < len(new), by_map)
            found = self.answered(heard, "ask 1:2", 5)
            self.assertEqual(words(found), ["map" if by_map else 1], new)
            if by_map:
                _, _, base, pieces = plain_letters.read_letter(found[0])
                self.assertEqual((base, cost(pieces)), ((1, 1), least))
        # The cost is just as great as the number of signs, and by one less.
        self.assertEqual(plain_letters.least_cost(old, "abcdef"), 6)
        self.assertEqual(plain_letters.least_cost(old, "abcdefghXY"), 10)
        self.assertEqual(plain_letters.least_cost(old, "abcdefghiXY"), 10)
        self.assertEqual(plain_letters.least_cost(old, "abcdefghXYlmnopq"), 16)
        self.assertEqual(plain_letters.least_cost(old, "abcdefghXYlmnopqr"), 16)

    def test_what_the_asker_has(self):
        text = "some words that are long"
        heard = (
            START,
            write((1, 1), 2, text),
            write((1, 2), 3, text + "!"),
            ("born", (1, 3), 4, "file", None, "b", ""),
            write((1, 4), 5, text, item=(1, 3)),
            write((2, 0), 9, text + "?"),
        )
        # It has no write of the item; of another item it may have one.
        self.assertEqual(words(self.answered(heard, "ask 1:1", 9)), [4, 1])
        self.assertEqual(words(self.answered(heard[:5], "ask 2:1", 9)), [5])
        self.assertEqual(words(self.answered(heard, "ask 1:3", 9)), [2, "map"])
        # Of several of its writes the last one by sequence.
        for asks, base in (("ask 1:2 2:1", (2, 0)), ("ask 1:2", (1, 1)), ("ask 1:3", (1, 2)), ("ask 2:1", (2, 0))):
            found = [letter for letter in self.answered(heard, asks, 9) if letter.startswith("map")]
            self.assertTrue(found)
            for letter in found:
                self.assertEqual(plain_letters.read_letter(letter)[2], base)
        # VECTORS may tell of more than is heard here.
        self.assertEqual(words(self.answered(heard[:3], "ask 1:2 9:9", 9)), ["map"])

    def test_the_last_one_by_sequence(self):
        near, far = "the same text nearly", "nothing alike ........"
        for stamp, by_map in ((2, True), (4, False)):
            heard = (START, write((1, 1), 3, near), write((2, 0), stamp, far), write((3, 0), 9, near))
            self.assertEqual(words(self.answered(heard, "ask 1:2 2:1", 9)), ["map" if by_map else 1])
        # With one stamp the greater LIFE is the last one.
        heard = (START, write((1, 1), 3, near), write((2, 0), 3, far), write((3, 0), 9, near))
        self.assertEqual(words(self.answered(heard, "ask 1:2 2:1", 9)), [1])

    def test_maps_stand_between_those_ahead_and_behind(self):
        text = "a text of many signs"
        heard = (START, write((1, 1), 2, text))
        for number in range(2, 12):
            if number in (4, 5, 8):
                heard += (write((1, number), number + 1, f"{text} {number}", (1, number - 1)),)
            else:
                heard += (("born", (1, number), number + 1, "folder", None, "f", ""),)
        self.assertEqual(words(self.answered(heard, "ask 1:2", 20)), [2, "map", "map", 2, "map", 3])
        self.assertEqual(words(self.answered(heard, "ask 1:2", 2)), [2, "map", "map", 2, "map", 2, 1])
        self.assertEqual(words(self.answered(heard, "ask 1:4", 2)), ["map", "map", 2, "map", 2, 1])
        self.assertEqual(words(self.answered(heard, "ask", 20)), [12])

    def test_a_map_without_pieces_never_goes(self):
        # It costs 0, which is not less than no signs at all.
        heard = (START, write((1, 1), 2, "text"), write((1, 2), 3, ""))
        self.assertEqual(self.answered(heard, "ask 1:2", 9), ("deeds\nwrite 1.2 3 1.0 - =",))

    def test_drawn_sets(self):
        met = {"map": 0, "deeds": 0}
        for seed in range(250):
            chance = random.Random(seed)
            heard = with_texts(chance, wild(chance, 3, 30))
            asker = part(chance, heard)
            found = self.answered(heard, ask_letter(asker), chance.randint(1, 20))
            for letter in found:
                met[letter.split(" ")[0].split("\n")[0]] += 1
            # All together they tell what lacks.
            dots = []
            for letter in found:
                said = plain_letters.read_letter(letter)
                dots += [said[1][1]] if said[0] == "map" else [deed[1] for deed in said[1]]
            lacking = lacks(heard, plain_letters.vector(asker))
            self.assertEqual(dots, [deed[1] for deed in lacking])
        self.assertGreater(met["map"], 150)
        self.assertGreater(met["deeds"], 250)


def with_texts(chance, heard):
    """The same with longer texts, many of them nearly alike."""
    begin = "once upon a time"
    found = []
    for deed in heard:
        if deed[0] == "write":
            text = begin[: chance.randint(5, 16)] + chance.choice(("", "x", " and more", begin))
            deed = deed[:4] + (text,) + deed[5:]
        found.append(deed)
    return tuple(found)
