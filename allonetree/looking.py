"""Looks at a disc, folder by folder, while programs go on."""

from allonetree.checks import check_disc
from allonetree.discs import ROOT
from allonetree.errors import LookOver

# The runs of a pass: all that hangs on the root, the ROOM, all that lies in the ROOM.
HANGING = 0
ROOM = 1
LYING = 2


class Look:
    """Reads all of a disc twice, one thing at a step."""

    def __init__(self, disc):
        check_disc(disc)
        self._disc = disc
        # What the first pass found and has not read: (run, the node where its
        # PATH begins, PATH, node); the least one is the next one.
        self._waiting = [(HANGING, ROOT, "", ROOT), (ROOM, ROOT, "", ROOT)]
        # (run, node, what was read) of each step of the first pass.
        self._seen = []
        self._read = 0
        self._word = "on"
        self._standing = None

    def step(self):
        """Reads the next thing, and tells "on", "whole" or "moved"."""
        if self._word != "on":
            raise LookOver(self._word)
        self._word = self._see() if self._waiting else self._see_again()
        self._read += 1
        return self._word

    def twin(self, disc):
        """A look that stands as this one, at a copy of its disc."""
        other = Look(disc)
        other._waiting, other._seen = list(self._waiting), list(self._seen)
        other._read, other._word, other._standing = self._read, self._word, self._standing
        return other

    @property
    def standing(self):
        return self._standing

    @property
    def read(self):
        return self._read

    def _see(self):
        found = min(self._waiting)
        self._waiting.remove(found)
        run, top, path, node = found
        reading = read_run(self._disc, run, node)
        if reading is None:
            return "moved"
        self._seen.append((run, node, reading))
        for row in [row for row in reading[1] if row[2] == "folder"]:
            inner, place = row[0], row[1]
            if run == ROOM:
                self._waiting.append((LYING, inner, "", inner))
            else:
                self._waiting.append((run, top, f"{path}/{place[1]}" if path else place[1], inner))
        return "on"

    def _see_again(self):
        # The first pass had one step for each thing that it saw.
        at = self._read - len(self._seen)
        run, node, reading = self._seen[at]
        if read_run(self._disc, run, node) != reading:
            return "moved"
        if at < len(self._seen) - 1:
            return "on"
        self._standing = standing_seen(self._seen)
        return "whole"


def read_run(disc, run, node):
    return read_room(disc) if run == ROOM else read_folder(disc, node)


def read_room(disc):
    # The ROOM has no moment.
    return (None, tuple([read_node(disc, node) for node in disc.room()]))


def read_folder(disc, node):
    """(moment, what is read of each node in it), None if it is not on the disc."""
    spot = disc.spot(node)
    if spot is None:
        return None
    return (spot[3], tuple([read_node(disc, inner) for inner in disc.held(node)]))


def read_node(disc, node):
    place, kind, text, moment = disc.spot(node)
    # A folder's moment is read with the folder.
    return (node, place, kind, text, None if kind == "folder" else moment)


def standing_seen(seen):
    """(node, place, kind, text) for all that was read, ascending by nodes."""
    return tuple(sorted([row[:4] for step in seen for row in step[2][1]]))
