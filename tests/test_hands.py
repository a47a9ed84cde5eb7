"""Looks, telling, placing and books together: a folder is brought to the picture, whatever comes in between."""

import random
import unittest

from allonetree.books import mending, read_book
from allonetree.discs import Disc
from allonetree.errors import Refused
from allonetree.looking import Look
from allonetree.pictures import picture
from allonetree.placing import due, left
from allonetree.telling import told
from tests import plain_keeping
from tests.chances import part, wild
from tests.hands import Hand, program


def hand_at(disc, heard=(), life=50):
    """A Hand that has heard these, and placed nothing of them."""
    hand = Hand(disc, life)
    for deed in sorted(heard, key=lambda deed: deed[1]):
        hand.note(("heard", deed))
    return hand


def hear(hand, heard):
    for deed in heard:
        if deed not in hand.heard:
            hand.note(("heard", deed))


class Checks(unittest.TestCase):
    def checked(self, hand):
        """All that is told of the disc now is as it is thought once more."""
        heard, known, disc = hand.heard, hand.known, hand.disc
        before = disc.copy()
        standing = plain_keeping.standing(disc)
        self.assertEqual(told(heard, hand.life, known, standing), plain_keeping.told(heard, hand.life, known, standing))
        for tried in {(), hand.tried}:
            self.assertEqual(due(heard, known, disc, tried), plain_keeping.due(heard, known, disc, tried))
        self.assertEqual(left(heard, known, disc), plain_keeping.left(heard, known, disc))
        self.assertEqual(read_book(disc), plain_keeping.read_book(disc))
        self.assertEqual(mending(disc), plain_keeping.mending(disc))
        self.assertEqual(read_book(disc)[0], heard)
        self.assertTrue(disc == before)

    def safe(self, hand, act):
        """What is dropped is heard of, or has no text."""
        if act[0] == "drop":
            _, kind, text, _ = hand.disc.spot(act[1])
            row = [row for row in hand.known if row[0] == act[1]][0]
            writes = [deed[3:5] for deed in hand.heard if deed[0] == "write"]
            self.assertTrue(kind != "file" or (row[1][1], text) in writes)
            self.assertFalse(plain_keeping.holds(hand.disc, act[1]))

    def place(self, hand):
        """All that is due, each act leading to a lesser pair; the words of the acts."""
        words = []
        pair = left(hand.heard, hand.known, hand.disc)
        while (act := hand.due()) is not None:
            self.safe(hand, act)
            steps = list(hand.do(act))
            words.append(act[0])
            behind = left(hand.heard, hand.known, hand.disc)
            if steps[-1] != "not":
                self.assertLess(behind, pair, act)
            else:
                self.assertEqual(behind, pair)
            pair = behind
            self.assertLess(len(words), 500)
        return words

    def still(self, hand):
        return all(hand.disc.spot(row[0]) and hand.disc.spot(row[0])[0] == row[2] for row in hand.known)


class Placing(Checks):
    def test_from_empty_discs(self):
        for seed in range(120):
            chance = random.Random(seed)
            heard = wild(chance, 3, chance.randint(0, 24))
            hand = hand_at(Disc(), heard)
            words = self.place(hand)
            self.assertEqual(hand.disc.rows(), picture(heard))
            self.assertEqual(left(heard, hand.known, hand.disc), (0, 0))
            self.assertEqual(words.count("make"), len(picture(heard)))
            self.assertEqual(words.count("shift"), len(picture(heard)))
            self.assertEqual(plain_keeping.told(hand.heard, 50, hand.known, plain_keeping.standing(hand.disc)), ())
            self.checked(hand)

    def test_from_one_picture_to_another(self):
        met = {}
        for seed in range(200):
            chance = random.Random(seed)
            heard = wild(chance, 3, 24)
            hand = hand_at(Disc(), part(chance, heard))
            self.place(hand)
            hear(hand, heard)
            for word in self.place(hand):
                met[word] = met.get(word, 0) + 1
            self.assertEqual(hand.disc.rows(), picture(heard))
            self.assertEqual(left(heard, hand.known, hand.disc), (0, 0))
            spots = plain_keeping.on_disc(hand.disc)
            self.assertEqual([node for node in spots if spots[node][0] is None], [])
        self.assertTrue(all(met[word] > 20 for word in ("make", "shift", "drop", "show")), met)

    def test_by_the_deeds_one_by_one(self):
        for seed in range(40):
            chance = random.Random(seed)
            heard = wild(chance, 3, 18)
            hand = hand_at(Disc())
            for deed in plain_keeping.plain_heard.sequence(heard):
                hear(hand, [deed])
                self.place(hand)
                self.assertEqual(hand.disc.rows(), picture(hand.heard))
                self.checked(hand)

    def test_from_discs_where_programs_were(self):
        for seed in range(80):
            chance = random.Random(seed)
            hand = hand_at(Disc(), wild(chance, 3, 12))
            for _ in range(12):
                program(chance, hand.disc)
            hand.rest()
            hand.rest()
            self.assertTrue(self.still(hand))
            self.assertIsNone(due(hand.heard, hand.known, hand.disc, ()))
            self.assertEqual(hand.disc.rows(), picture(hand.heard))
            self.checked(hand)

    def test_a_name_that_is_taken_bars_the_way_until_it_is_told(self):
        heard = (("born", (1, 0), 1, "link", None, "a", "to"),)
        hand = hand_at(Disc(), heard)
        hand.disc.do(("file", "A", "theirs"))
        self.assertEqual(self.place(hand), ["make", "shift"])
        self.assertEqual((hand.tried, hand.disc.rows()), ((2,), (("A", "file", "theirs"),)))
        self.assertEqual(hand.disc.book[-2:], ("shift 2 item 1.0 at 0 a - 1.0", "not 2"))
        list(hand.tell(hand.look()))
        self.assertEqual(hand.tried, ())
        # The ITEM of the lesser DOT has the name: the file goes into the ROOM, and comes to another name.
        self.assertEqual(self.place(hand), ["shift", "shift", "shift"])
        self.assertEqual(hand.disc.rows(), (("A.also1", "file", "theirs"), ("a", "link", "to")))


class Texts(Checks):
    """A program writes once while acts are done: this text stands in the end."""

    def begun(self, seed):
        chance = random.Random(seed)
        heard = wild(chance, 3, 22)
        hand = hand_at(Disc(), part(chance, heard))
        hand.place()
        hear(hand, heard)
        return hand

    def steps_of(self, hand):
        """All small steps of placing, one behind the other."""
        while (act := hand.due()) is not None:
            self.safe(hand, act)
            for word in hand.do(act):
                yield word

    def test_a_text_written_at_any_moment_stands(self):
        met = {"tell": 0, "written": 0}
        for seed in range(11):
            many = len(list(self.steps_of(self.begun(seed))))
            paths = [path for path, kind, _ in self.begun(seed).disc.rows() if kind == "file"]
            for path in paths + ["new", "a/new", "a"]:
                for at in range(many + 1):
                    hand = self.begun(seed)
                    written = self.write_behind(hand, path, at, met)
                    for _ in range(3):
                        hand.rest()
                    self.assertEqual(hand.disc.rows(), picture(hand.heard))
                    texts = [text for _, _, text in hand.disc.rows()]
                    self.assertEqual(texts.count("unheard of"), 1 if written else 0, (seed, path, at))
                    met["written"] += written
        self.assertGreater(met["written"], 150)
        self.assertGreater(met["tell"], 0)

    def write_behind(self, hand, path, at, met):
        """Goes on to place, and writes behind so many steps; whether it could be written."""
        written = False
        running = self.steps_of(hand)
        for number in range(1000):
            if number == at:
                try:
                    hand.disc.do(("file", path, "unheard of"))
                    written = True
                except Refused:
                    pass
            word = next(running, None)
            if word is None:
                return written
            met["tell"] += word == "tell"
        raise AssertionError("placing does not end")


class Falls(Checks):
    """A keeper falls behind any step, and another one begins by the book."""

    def script(self, seed):
        chance = random.Random(seed)
        heard = wild(chance, 3, 16)
        return part(chance, heard), heard

    def run_until(self, hand, heard, many):
        """So many small steps: hearing one line each, then placing; whether there were so many."""
        if many == 0:
            return True
        for deed in heard:
            if deed not in hand.heard:
                hand.note(("heard", deed))
                many -= 1
                if many == 0:
                    return True
        while (act := hand.due()) is not None:
            for _ in hand.do(act):
                many -= 1
                if many == 0:
                    return True
        return False

    def mended(self, hand, most=10**6):
        """A fall and a start: a keeper of another LIFE; it may fall again in between."""
        hand = Hand(hand.disc, hand.life + 1)
        for number, _ in enumerate(hand.mend(), 1):
            if number == most:
                return self.mended(hand)
        once = hand.disc.copy()
        again = Hand(once.copy(), hand.life + 1)
        self.assertEqual(list(again.mend()), [])
        self.assertEqual((again.heard, again.known), (hand.heard, hand.known))
        self.assertEqual((again.disc.nodes(), again.disc.next), (once.nodes(), once.next))
        return hand

    def test_falls_at_each_step(self):
        met = 0
        for seed in range(10):
            first, heard = self.script(seed)
            for many in range(200):
                hand = hand_at(Disc(), first)
                hand.place()
                if not self.run_until(hand, heard, many):
                    break
                for most in (1, 10**6):
                    twin = Hand(hand.disc.copy(), 60)
                    twin = self.mended(twin, most)
                    self.checked(twin)
                    self.assertEqual(twin.heard, hand.heard)
                    # What is known is as the disc is, but where programs were.
                    self.assertTrue(self.still(twin))
                    hear(twin, heard)
                    self.place(twin)
                    self.assertEqual(twin.disc.rows(), picture(heard))
                    nodes = [node for node in range(1, twin.disc.next) if twin.disc.spot(node) is not None]
                    self.assertEqual(nodes, [row[0] for row in twin.known])
                met += 1
        self.assertGreater(met, 100)

    def test_falls_while_telling(self):
        for seed in range(40):
            chance = random.Random(seed)
            disc = Disc()
            hand = hand_at(disc, wild(chance, 2, 8))
            hand.place()
            for _ in range(14):
                program(chance, disc)
            standing = hand.look()
            whole = told(hand.heard, hand.life, hand.known, standing)
            for at, _ in enumerate(hand.tell(standing), 1):
                twin = Hand(disc.copy(), hand.life)
                self.assertEqual((twin.heard, twin.known), (hand.heard, hand.known))
                # The next one tells the same, in its own name.
                self.assertEqual(told(twin.heard, twin.life, twin.known, twin.look()), whole[at:])


class Walks(Checks):
    """Machines with programs that rest at last."""

    def step(self, chance, hands, lives):
        at = chance.randrange(len(hands))
        hand, lot = hands[at], chance.random()
        if lot < 0.4:
            program(chance, hand.disc)
        elif lot < 0.55:
            standing = hand.look((lambda: chance.random() < 0.1 and program(chance, hand.disc)))
            if standing is not None:
                list(hand.tell(standing))
        elif lot < 0.65:
            list(hand.hear(chance.choice(hands)))
        elif lot < 0.95:
            act = hand.due()
            if act is not None:
                self.safe(hand, act)
                for _ in hand.do(act):
                    if chance.random() < 0.2:
                        program(chance, hand.disc)
                    if chance.random() < 0.05:
                        self.fall(chance, hands, at, lives)
                        break
        else:
            self.fall(chance, hands, at, lives)
        self.checked(hands[at])

    def fall(self, chance, hands, at, lives):
        lives.append(len(lives) + 1)
        hands[at] = Hand(hands[at].disc, lives[-1])
        for _ in hands[at].mend():
            if chance.random() < 0.2:
                program(chance, hands[at].disc)

    def test_walks(self):
        for seed in range(45):
            chance = random.Random(seed)
            many = chance.randint(1, 3)
            hands = [Hand(Disc(), at + 1) for at in range(many)]
            lives = list(range(1, many + 1))
            for _ in range(45):
                self.step(chance, hands, lives)
            for lap in range(9):
                before = [hand.heard for hand in hands]
                for hand in hands:
                    hand.rest()
                for hand in hands:
                    for other in hands:
                        list(hand.hear(other))
                for hand in hands:
                    self.place(hand)
                    self.checked(hand)
                if [hand.heard for hand in hands] == before:
                    break
            self.assertLess(lap, 8)
            for hand in hands:
                self.assertEqual(hand.heard, hands[0].heard)
                self.assertEqual(hand.disc.rows(), picture(hand.heard))
                self.assertTrue(self.still(hand))

    def test_looks_do_not_change_what_they_look_at(self):
        for seed in range(20):
            chance = random.Random(seed)
            disc = Disc()
            for _ in range(20):
                program(chance, disc)
            before = disc.copy()
            look = Look(disc)
            while look.step() == "on":
                self.assertTrue(disc == before)
