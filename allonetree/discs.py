"""A disc: a folder in which programs do what they like, the ROOM beside it, a book."""

from allonetree.errors import BadAct, BadLine, Refused
from allonetree.forms import is_integer, is_making, is_path, is_place, is_text, small

ROOT = 0


class Thing:
    """What stands on a disc under one number."""

    def __init__(self, kind, text):
        self.kind = kind
        self.text = text
        self.moment = 0
        # (folder node, NAME), or None: the ROOM, and for the root.
        self.where = None
        # The nodes in a folder by their names, made small: how a name is
        # spelled is told by the place of the node to which it leads.
        self.inside = {}

    def twin(self):
        other = Thing(self.kind, self.text)
        other.moment = self.moment
        other.where = self.where
        other.inside = dict(self.inside)
        return other


class Disc:
    """The root alone, at first."""

    def __init__(self):
        self._next = ROOT + 1
        self._lines = []
        self._things = {ROOT: Thing("folder", "")}

    def do(self, act):
        """Does a program's deed, at once."""
        if not is_act(act):
            raise BadAct(act)
        word = self._refusal(act)
        if word is not None:
            raise Refused(word)
        node = self._at(act[1])
        if act[0] == "gone":
            self._vanish(node)
        elif act[0] == "move":
            self._move(node, act[2])
        elif node is None:
            text = "" if act[0] == "folder" else act[2]
            self._settle(self._born(act[0], text), self._goal(act[1]))
        else:
            self._write(node, act[2])

    def make(self, kind, text):
        """The number of a new node in the ROOM."""
        if not is_making(kind, text):
            raise BadAct((kind, text))
        return self._born(kind, text)

    def shift(self, node, place, goal):
        """Whether the node could be put from the place to the goal."""
        if not self._is_at(node, place) or not self._is_free(goal, node):
            return False
        self._settle(node, goal)
        return True

    def drop(self, node):
        """Whether the node could vanish from the ROOM."""
        if not self._is_at(node, None) or self._things[node].inside:
            return False
        del self._things[node]
        return True

    def note(self, line):
        """Adds a line to the book."""
        if not isinstance(line, str) or "\n" in line:
            raise BadLine(line)
        self._lines.append(line)

    def rows(self):
        return tuple([(row[0], row[2], row[3]) for row in self.nodes()[1:]])

    def nodes(self):
        """(PATH, node, KIND, TEXT, moment) for all that programs see."""
        found = []
        waiting = [("", ROOT)]
        while waiting:
            path, node = waiting.pop()
            thing = self._things[node]
            found.append((path, node, thing.kind, thing.text, thing.moment))
            for inner in thing.inside.values():
                name = self._things[inner].where[1]
                waiting.append((f"{path}/{name}" if path else name, inner))
        return tuple(sorted(found))

    def spot(self, node):
        """(place, KIND, TEXT, moment) of a node on the disc."""
        if not self._is_here(node):
            return None
        thing = self._things[node]
        return (thing.where, thing.kind, thing.text, thing.moment)

    def held(self, node):
        """The nodes to which the names in a node on the disc lead, ascending."""
        return tuple(sorted(self._things[node].inside.values()))

    def room(self):
        """The nodes that lie in the ROOM themselves, ascending."""
        away = [node for node in sorted(self._things) if self._things[node].where is None]
        return tuple([node for node in away if node != ROOT])

    @property
    def next(self):
        return self._next

    @property
    def book(self):
        return tuple(self._lines)

    def copy(self):
        other = Disc()
        other._next = self._next
        other._lines = list(self._lines)
        other._things = {node: self._things[node].twin() for node in self._things}
        return other

    def __eq__(self, other):
        return isinstance(other, Disc) and self._all() == other._all()

    def _all(self):
        spots = [(node, self.spot(node)) for node in sorted(self._things)]
        return (self._next, self._lines, spots)

    def _is_here(self, node):
        return is_integer(node) and node in self._things

    def _is_folder(self, node):
        return self._is_here(node) and self._things[node].kind == "folder"

    def _is_at(self, node, place):
        """Whether the node can be taken from the place (None: the ROOM)."""
        if not self._is_here(node) or node == ROOT:
            return False
        # (True, "a") equals (1, "a"), but is no place.
        if place is not None and not is_place(place):
            return False
        return self._things[node].where == place

    def _is_free(self, goal, node):
        """Whether the node can be put to the goal (None: the ROOM)."""
        if goal is None:
            return True
        if not is_place(goal) or not self._is_folder(goal[0]):
            return False
        return not self._is_in(goal[0], node) and self._named(goal) is None

    def _is_in(self, node, other):
        """Whether the node is the other one, or within it."""
        while node != other:
            where = self._things[node].where
            if where is None:
                return False
            node = where[0]
        return True

    def _named(self, place):
        """The node to which the place's name leads, however it is spelled."""
        return self._things[place[0]].inside.get(small(place[1]))

    def _at(self, path):
        """The node at the path, None if nothing stands there."""
        node = ROOT
        for name in path.split("/") if path else []:
            node = self._named((node, name))
            if node is None:
                return None
        return node

    def _goal(self, path):
        """The place that the path tells, None if there is no such folder."""
        ahead, _, name = path.rpartition("/")
        node = self._at(ahead)
        return (node, name) if self._is_folder(node) else None

    def _refusal(self, act):
        """The first word by which the act is refused, None if it is not."""
        word, path = act[0], act[1]
        if word == "move":
            return self._refused_move(path, act[2])
        if path == "":
            return "root"
        node = self._at(path)
        if word == "gone":
            return "none" if node is None else None
        if self._goal(path) is None:
            return "none"
        if node is None:
            return None
        if word == "file":
            return None if self._things[node].kind == "file" else "kind"
        return "stands"

    def _refused_move(self, path, to):
        if path == "" or to == "":
            return "root"
        node, goal = self._at(path), self._goal(to)
        if node is None or goal is None:
            return "none"
        if self._is_in(goal[0], node):
            return "within"
        other = self._named(goal)
        if other is None or other == node or self._are_files(node, other):
            return None
        return "stands"

    def _are_files(self, node, other):
        return self._things[node].kind == "file" and self._things[other].kind == "file"

    def _born(self, kind, text):
        node = self._next
        self._things[node] = Thing(kind, text)
        self._next = node + 1
        return node

    def _write(self, node, text):
        thing = self._things[node]
        thing.text = text
        thing.moment += 1

    def _move(self, node, path):
        goal = self._goal(path)
        other = self._named(goal)
        if other is not None and other != node:
            del self._things[other]
        self._settle(node, goal)

    def _vanish(self, node):
        self._settle(node, None)
        waiting = [node]
        while waiting:
            thing = self._things.pop(waiting.pop())
            waiting.extend(list(thing.inside.values()))

    def _settle(self, node, goal):
        """Puts the node to the goal (None: the ROOM), whatever its name led to there."""
        thing = self._things[node]
        place = thing.where
        if place == goal:
            return
        if place is not None:
            del self._things[place[0]].inside[small(place[1])]
        if goal is not None:
            self._things[goal[0]].inside[small(goal[1])] = node
        thing.where = goal
        # One deed or shift, one moment, also within one folder.
        for folder in sorted({end[0] for end in (place, goal) if end is not None}):
            holder = self._things[folder]
            holder.moment += 1


def is_act(value):
    """Whether this is one of a program's acts."""
    if not isinstance(value, tuple) or len(value) not in (2, 3) or not is_path(value[1]):
        return False
    if len(value) == 2:
        return value[0] in ("folder", "gone")
    if value[0] == "move":
        return is_path(value[2])
    return value[0] in ("file", "link") and is_text(value[2])
