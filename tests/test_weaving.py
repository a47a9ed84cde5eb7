"""Whole worlds, woven by chance: what the document guarantees, at each moment and in the end."""

import random
import unittest

from allonetree.books import read_book
from allonetree.errors import Refused
from allonetree.pictures import picture
from allonetree.worlds import World
from tests import plain_heard, plain_keeping
from tests.weaving import KEPT, Weaver


class Beside(unittest.TestCase):
    """Each world beside a second writing of it: all that is told is the same."""

    def same(self, weaver, names):
        world, plain = weaver.world, weaver.plain
        self.assertEqual(world.letters, plain.letters)
        for name in names:
            self.assertTrue(world.disc_of(name) == plain.discs[name])
            keeper, other = world.keeper_of(name), plain.keepers[name]
            self.assertEqual(keeper is None, other is None)
            if keeper is not None:
                for word in KEPT:
                    self.assertEqual(getattr(keeper, word), getattr(other, word), word)
                self.assertIs(keeper.rests(), other.rests())
                self.assertEqual(keeper.ask(), other.ask())

    def test_step_by_step(self):
        met = {}
        for seed in range(24):
            weaver = Weaver(random.Random(seed), plain=True)
            names = weaver.world.names
            for act, said in weaver.weave(90):
                self.same(weaver, names if act[0] in ("deliver", "round") else act[1:2])
                if act[0] == "step" and isinstance(said, str):
                    met[said] = met.get(said, 0) + 1
            weaver.all_run()
            self.assertIsInstance(weaver.do("rest"), int)
            self.same(weaver, names)
        words = "waits none on whole moved told done heard mended show tell drop dropped make made shift shifted stuck not"
        self.assertTrue(all(met.get(word, 0) > 0 for word in words.split()), met)


class Watch:
    """Looks on while a world is woven, and tells what must not be."""

    def __init__(self, case, weaver):
        self.case, self.weaver = case, weaver
        # Each DEED ever told, by its dot.
        self.deeds = {}
        self.heard = {}
        # The standings since a look began, and what the last whole one saw.
        self.seen, self.standing = {}, {}
        self.before = {}
        self.met = {"drop": 0, "whole": 0, "done": 0, "live": 0, "folders": 0}
        for name in weaver.world.names:
            self.remember(name)

    def remember(self, name):
        self.before[name] = plain_keeping.on_disc(self.weaver.world.disc_of(name))

    def behind(self, act, said):
        names = self.weaver.world.names if act[0] in ("deliver", "round") else (act[1],)
        for name in names:
            keeper = self.weaver.world.keeper_of(name)
            self.tree(name)
            if keeper is not None:
                self.kept(name, keeper, act, said)
                self.looked(name, keeper, act, said)
            else:
                self.heard.pop(name, None)
                self.seen.pop(name, None)
            if act[0] == "step":
                self.dropped(name, keeper, said)
            self.remember(name)

    def tree(self, name):
        rows = self.weaver.world.rows(name)
        kinds = {path: kind for path, kind, _ in rows}
        self.case.assertEqual(len({path.lower() for path in kinds}), len(rows))
        for path in kinds:
            if "/" in path:
                self.case.assertEqual(kinds.get(path.rpartition("/")[0]), "folder")
                self.met["folders"] += 1

    def kept(self, name, keeper, act, said):
        """What is heard and known is what the book tells; nothing heard is lost; no number is told twice."""
        self.case.assertEqual((keeper.heard, keeper.known), read_book(keeper.disc)[:2])
        for deed in keeper.heard:
            self.case.assertEqual(self.deeds.setdefault(deed[1], deed), deed)
        elder = self.heard.get(name)
        if elder is not None and elder[0] == keeper.life:
            self.case.assertLessEqual(set(elder[1]), set(keeper.heard))
        self.heard[name] = (keeper.life, keeper.heard)

    def looked(self, name, keeper, act, said):
        """A standing was there, while the look was on; what it saw of texts is told."""
        now = plain_keeping.standing(keeper.disc)
        step = act[2] if act[0] == "step" else act[0]
        if step == "look" and said in ("on", "whole"):
            self.seen.setdefault(name, []).append(now)
        elif step == "program" and name in self.seen:
            self.seen[name].append(now)
        if (step, said) == ("look", "whole"):
            self.case.assertIn(keeper.standing, self.seen[name])
            self.standing[name] = keeper.standing
            self.met["whole"] += 1
        if isinstance(said, Exception):
            return
        if step in ("start", "round") or (step, said) in (("look", "whole"), ("look", "moved")):
            self.seen.pop(name, None)
        if (step, said) == ("tell", "done"):
            self.told(keeper, self.standing[name])

    def told(self, keeper, standing):
        writes = {deed[1]: deed for deed in keeper.heard if deed[0] == "write"}
        rows = {row[0]: row for row in keeper.known}
        for node, place, kind, text in standing:
            if kind == "file" and (place is not None or node in rows):
                self.case.assertEqual(writes[rows[node][3]][4], text)
                self.met["done"] += 1

    def dropped(self, name, keeper, said):
        """What a step takes from the disc is heard of."""
        now = plain_keeping.on_disc(self.weaver.world.disc_of(name))
        gone = [spot for node, spot in self.before[name].items() if node not in now]
        if gone:
            self.case.assertIn(said, ("dropped", "mended"))
        for _, kind, text, _ in gone:
            self.met["drop"] += 1
            if kind == "file":
                self.case.assertIn(text, [deed[4] for deed in keeper.heard if deed[0] == "write"])

    def alike(self):
        """All folders are the picture of what is heard, in which each live text stands."""
        world = self.weaver.world
        heard = world.keeper_of(world.names[0]).heard
        self.case.assertIs(world.alike(), True)
        texts = {deed[1]: deed[4] for deed in heard if deed[0] == "write"}
        files = [item for item, deed in plain_heard.born(heard).items() if deed[3] == "file"]
        live = sorted(texts[dot] for item in files for dot in plain_heard.live(heard, item))
        self.met["live"] += len(live)
        for name in world.names:
            keeper = world.keeper_of(name)
            self.case.assertEqual((keeper.heard, keeper.rests()), (heard, True))
            self.case.assertEqual(world.rows(name), picture(heard))
            self.case.assertEqual(sorted(row[2] for row in world.rows(name) if row[1] == "file"), live)
            # Nothing is left in the ROOM, or unknown.
            nodes = sorted(plain_keeping.on_disc(world.disc_of(name)))
            self.case.assertEqual(nodes, [row[0] for row in keeper.known])


class Woven(unittest.TestCase):
    def test_at_each_moment_and_in_the_end(self):
        met = {}
        waited = [0, 0]
        for seed in range(60):
            weaver = Weaver(random.Random(seed))
            watch = Watch(self, weaver)
            for act, said in weaver.weave(60):
                watch.behind(act, said)
            world = weaver.world
            weaver.all_run()
            # If nothing waited, the first round makes all alike.
            waits = any(world.keeper_of(name).waiting for name in world.names)
            waited[waits] += 1
            world.round()
            if not waits:
                watch.alike()
            self.assertLess(world.rest(), 5)
            watch.alike()
            self.assertEqual(world.rest(), 1)
            for word, many in watch.met.items():
                met[word] = met.get(word, 0) + many
        self.assertTrue(all(many > 30 for many in met.values()), met)
        self.assertGreater(min(waited), 0)

    def test_all_that_was_written_stands_if_nobody_takes_it_away(self):
        """Programs that only write new files, and move things: all texts stand in the end."""
        for seed in range(30):
            chance = random.Random(seed)
            weaver = Weaver(chance)
            world, texts = weaver.world, []

            def program(name):
                path, _, kind, _, _ = chance.choice(world.disc_of(name).nodes())
                text = "text %d" % len(texts)
                act = ("file", "%s/new%d" % (path, len(texts)) if path else "new%d" % len(texts), text)
                if kind != "folder" or chance.random() < 0.4:
                    act = ("move", path, chance.choice(("x", "y", "z", "x/y", "a/b", "new1/z")))
                if chance.random() < 0.2:
                    act = ("folder", chance.choice(("x", "y", "a", "a/b", "x/y")))
                spots = [spot for spot in world.disc_of(name).nodes() if act[0] == "move" and spot[0] == act[2]]
                if spots and spots[0][2] == "file":
                    act = ("folder", "other")
                return ("program", name, act)

            weaver.program = program
            weaver.spite = lambda name: ()
            weaver.mimic = 0
            for act, said in weaver.weave(60):
                if act[0] == "back":
                    break
                if act[0] == "program" and act[2][0] == "file" and not isinstance(said, Refused):
                    texts.append(act[2][2])
            if act[0] == "back":
                continue
            weaver.all_run()
            weaver.do("rest")
            found = [row[2] for row in world.rows(world.names[0]) if row[1] == "file"]
            self.assertEqual(sorted(found), sorted(texts))

    def test_folders_moved_into_one_another_in_many_places(self):
        for seed in range(30):
            chance = random.Random(seed)
            names = ("a", "b", "c", "d")
            world = World(names)
            for life, name in enumerate(names, 1):
                world.start(name, life)
            for number in range(6):
                world.program("a", ("folder", "f%d" % number))
                world.program("a", ("file", "f%d/x" % number, "text %d" % number))
            world.rest()
            for lap in range(3):
                for name in names:
                    for _ in range(chance.randint(1, 4)):
                        folders = [row[0] for row in world.rows(name) if row[1] == "folder"]
                        one, other = chance.choice(folders), chance.choice(folders)
                        try:
                            world.program(name, ("move", one, other + "/" + one.rpartition("/")[2]))
                        except Refused:
                            pass
                for name in names[: chance.randint(1, 4)]:
                    world.step(name, "look")
                world.rest()
                self.assertIs(world.alike(), True)
                rows = world.rows("a")
                self.assertEqual(sorted(row[2] for row in rows if row[1] == "file"), ["text %d" % number for number in range(6)])
                self.assertEqual(len(rows), 12)
                self.assertEqual(rows, picture(world.keeper_of("b").heard))

    def test_the_sequence_of_letters_tells_nothing(self):
        """One world, copied: what is on its way comes in other sequences, and all comes to the same."""
        for seed in range(15):
            chance = random.Random(seed)
            weaver = Weaver(chance)
            for _ in weaver.weave(40):
                pass
            weaver.all_run()
            found = []
            for _ in range(3):
                world = weaver.world.copy()
                names = list(world.names)
                for _ in range(12):
                    number = chance.randrange(len(world.letters)) if world.letters else None
                    if number is not None:
                        world.deliver(number)
                    chance.shuffle(names)
                    for name in names[:2]:
                        world.step(name, "hear")
                world.rest()
                self.assertIs(world.alike(), True)
                live = plain_heard.picture(world.keeper_of(names[0]).heard)
                self.assertEqual(world.rows(names[0]), live)
                found.append(sorted(row[2] for row in live if row[1] == "file"))
            self.assertEqual(found[1:], found[:1] * 2)
