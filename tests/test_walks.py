"""Long walks of programs' deeds and shifts, beside a disc that is thought otherwise."""

import random
import unittest

from allonetree.discs import Disc
from allonetree.errors import Refused

NAMES = ("a", "A", "b", "B", "c")


class Thought:
    """A disc as one list of nodes: a name is found by looking at all of them."""

    def __init__(self):
        # node: [folder node (None: ROOM), name, kind, text, moment]
        self.nodes = {0: [None, "", "folder", "", 0]}
        self.next = 1

    def child(self, folder, name):
        found = [
            node for node, row in self.nodes.items() if row[0] == folder and node and row[1].lower() == name.lower()
        ]
        return found[0] if found and folder is not None else None

    def find(self, names):
        node = 0
        for name in names:
            node = self.child(node, name)
        return node

    def above(self, node):
        found = []
        while node is not None:
            found.append(node)
            node = self.nodes[node][0]
        return found

    def folder(self, node):
        return node in self.nodes and self.nodes[node][2] == "folder"

    def new(self, folder, name, kind, text):
        self.nodes[self.next] = [folder, name, kind, text, 0]
        self.next += 1
        return self.next - 1

    def changed(self, *folders):
        for folder in set(folders) - {None}:
            self.nodes[folder][4] += 1

    def do(self, act):
        if "" in ((act[1], act[2]) if act[0] == "move" else (act[1],)):
            return "root"
        names = act[1].split("/")
        node, folder = self.find(names), self.find(names[:-1])
        if act[0] == "move":
            return self.move(node, act[2].split("/"))
        if act[0] == "gone":
            return self.gone(node)
        if not self.folder(folder):
            return "none"
        if node is not None and (act[0] != "file" or self.nodes[node][2] != "file"):
            return "kind" if act[0] == "file" else "stands"
        if node is not None:
            self.nodes[node][3:] = [act[2], self.nodes[node][4] + 1]
            return None
        self.new(folder, names[-1], act[0], "".join(act[2:]))
        return self.changed(folder)

    def gone(self, node):
        if node is None:
            return "none"
        self.changed(self.nodes[node][0])
        for one in [one for one in self.nodes if node in self.above(one)]:
            del self.nodes[one]
        return None

    def move(self, node, names):
        folder, other = self.find(names[:-1]), self.find(names)
        if node is None or not self.folder(folder):
            return "none"
        if node in self.above(folder):
            return "within"
        if other not in (None, node):
            if (self.nodes[node][2], self.nodes[other][2]) != ("file", "file"):
                return "stands"
            del self.nodes[other]
        if self.nodes[node][:2] != [folder, names[-1]]:
            self.changed(self.nodes[node][0], folder)
            self.nodes[node][:2] = [folder, names[-1]]
        return None

    def shift(self, node, place, goal):
        if node not in self.nodes or node == 0 or place != self.place(node):
            return False
        if goal is not None:
            if not self.folder(goal[0]) or node in self.above(goal[0]) or self.child(*goal) is not None:
                return False
        if place != goal:
            self.changed(self.nodes[node][0], goal and goal[0])
        self.nodes[node][:2] = goal or [None, ""]
        return True

    def drop(self, node):
        if (
            node in (0, None)
            or node not in self.nodes
            or self.place(node)
            or [row for row in self.nodes.values() if row[0] == node]
        ):
            return False
        del self.nodes[node]
        return True

    def place(self, node):
        folder, name = self.nodes[node][:2]
        return None if folder is None else (folder, name)

    def spot(self, node):
        return (self.place(node),) + tuple(self.nodes[node][2:]) if node in self.nodes else None

    def told(self):
        found = []
        for node in self.nodes:
            above = self.above(node)
            if above[-1] == 0:
                path = "/".join([self.nodes[one][1] for one in above[::-1][1:]])
                found.append((path, node) + tuple(self.nodes[node][2:]))
        return tuple(sorted(found))


def some_path(chance, thought):
    """Mostly the path of something that is there, or of something in it."""
    path = chance.choice(thought.told())[0]
    if chance.random() < 0.6:
        path = path + ("/" if path else "") + chance.choice(NAMES)
    return path.swapcase() if chance.random() < 0.3 else path


def some_act(chance, thought):
    word, path = chance.choice(("folder", "folder", "file", "link", "gone", "move", "move", "move")), some_path(
        chance, thought
    )
    if word in ("folder", "gone"):
        return (word, path)
    return (word, path, some_path(chance, thought) if word == "move" else chance.choice(("x", "y", "")))


def some_shift(chance, thought):
    node = chance.randrange(thought.next + 1)
    spot = thought.spot(node)
    place = spot[0] if spot and chance.random() < 0.9 else (0, "a")
    goal = chance.choice((None, (chance.randrange(thought.next + 1), chance.choice(NAMES))))
    return node, place, goal


class Walks(unittest.TestCase):
    def tree(self, disc):
        """Each node at a name hangs on the root or the ROOM, by folders alone, and no names are alike."""
        spots = {node: disc.spot(node) for node in range(disc.next) if disc.spot(node) is not None}
        places = [spot[0] for spot in spots.values() if spot[0] is not None]
        self.assertEqual(len({(folder, name.lower()) for folder, name in places}), len(places))
        for node in spots:
            seen = []
            while spots[node][0] is not None:
                self.assertNotIn(node, seen)
                seen.append(node)
                node = spots[node][0][0]
                self.assertEqual(spots[node][1], "folder")

    def alike(self, disc, thought):
        self.assertEqual(disc.nodes(), thought.told())
        self.assertEqual(disc.rows(), tuple([(row[0], row[2], row[3]) for row in thought.told()[1:]]))
        self.assertEqual(disc.next, thought.next)
        self.assertEqual(
            [disc.spot(node) for node in range(disc.next + 1)], [thought.spot(node) for node in range(disc.next + 1)]
        )

    def step(self, chance, disc, thought):
        lot = chance.random()
        if lot < 0.6:
            act = some_act(chance, thought)
            word = None
            try:
                self.assertIsNone(disc.do(act))
            except Refused as error:
                word = error.value
            self.assertEqual(word, thought.do(act), act)
            return word or "done"
        if lot < 0.7:
            self.assertEqual(disc.make("folder", ""), thought.new(None, "", "folder", ""))
            return "make"
        if lot < 0.95:
            told = some_shift(chance, thought)
            done = disc.shift(*told)
            self.assertIs(done, thought.shift(*told), told)
            return done
        node = chance.randrange(thought.next)
        self.assertIs(disc.drop(node), thought.drop(node))
        return "drop"

    def test_walks(self):
        met = set()
        for seed in range(60):
            chance, disc, thought = random.Random(seed), Disc(), Thought()
            for _ in range(80):
                met.add(self.step(chance, disc, thought))
                self.alike(disc, thought)
                self.tree(disc)
            self.assertTrue(disc == disc.copy())
        self.assertEqual(met, {"done", "root", "none", "kind", "stands", "within", "make", "drop", True, False})

    def test_equal_walks_come_to_equal_discs(self):
        for seed in range(5):
            discs = []
            for _ in range(2):
                chance, disc, thought = random.Random(seed), Disc(), Thought()
                for _ in range(60):
                    self.step(chance, disc, thought)
                discs.append(disc)
            self.assertTrue(discs[0] == discs[1])
            self.assertFalse(discs[0] != discs[1])
