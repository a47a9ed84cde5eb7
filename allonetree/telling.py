"""What programs did, told from what was known and what stands."""

from allonetree.checks import check_heard, check_known, check_life
from allonetree.discs import ROOT
from allonetree.errors import BadChanges, BadStanding
from allonetree.forms import small
from allonetree.hearing import counts, next_stamp
from allonetree.living import kinds_of
from allonetree.rows import is_changes, is_standing


def told(heard, life, known, standing):
    """(DEED or None, changes of KNOWN) for all that was done, in sequence."""
    check_heard(heard)
    check_life(life)
    check_known(known)
    if not is_standing(standing):
        raise BadStanding(standing)
    return told_of(heard, life, known, standing)


def told_of(heard, life, known, standing):
    teller = Teller(heard, life, known, standing)
    for node in teller.places_to_tell():
        teller.tell_place(node)
    for node in sorted(teller.seen):
        teller.tell_text(node)
    known_nodes = sorted(teller.row_of)
    for node in known_nodes:
        teller.tell_gone(node)
    return tuple(teller.found)


def known_behind(known, changes):
    """KNOWN with the changes."""
    check_known(known)
    if not is_changes(changes):
        raise BadChanges(changes)
    return known_with(known, changes)


def known_with(known, changes):
    rows = {row[0]: row for row in known}
    change_rows(rows, changes)
    return tuple([rows[node] for node in sorted(rows)])


def change_rows(rows, changes):
    """Changes a dict of ROWS by their nodes."""
    for node, row in changes:
        if row is None:
            rows.pop(node, None)
        else:
            rows[node] = row


class Teller:
    """Tells one DEED behind the other, and keeps what is known behind it."""

    def __init__(self, heard, life, known, standing):
        self.found = []
        # The ROW of each node, as it is behind all that is found.
        self.row_of = {row[0]: row for row in known}
        # (place, kind, text) of each node that stands.
        self.seen = {row[0]: row[1:] for row in standing}
        self._life = life
        self._number = counts(heard).get(life, 0)
        self._stamp = next_stamp(heard)
        self._kinds = kinds_of(heard)
        # (ITEM, TEXT) of each write.
        self._writes = {deed[1]: deed[3:5] for deed in heard if deed[0] == "write"}

    def places_to_tell(self):
        """What hangs on the root by paths, then what is in known nodes of the ROOM."""
        inside = {}
        for node in self.seen:
            place = self.seen[node][0]
            if place is not None:
                inside.setdefault(place[0], []).append((place[1], node))
        away = [node for node in sorted(self.row_of) if node in self.seen and self.seen[node][0] is None]
        found = []
        for top in [ROOT] + away:
            found.extend(nodes_in(inside, top))
        return found

    def tell_place(self, node):
        place, kind, text = self.seen[node]
        if node not in self.row_of:
            elder = self._elder(place) if kind == "file" else None
            if elder is None:
                self._tell_born(node)
            else:
                self._tell_moved_over(node, elder)
        _, key, known_place, write, shown = self.row_of[node]
        if place == known_place:
            return
        dot = self._dot()
        if key[0] == "item":
            row = (node, key, place, write, tuple(sorted(shown + (dot,))))
            self._tell("put", (key[1], self._item_in(place), place[1]), ((node, row),))
        else:
            # Somebody gave it a place of its own: the elder write is the other
            # ITEM's, and so its text is told anew.
            row = (node, ("item", dot), place, write, (dot,))
            self._tell("born", ("file", self._item_in(place), place[1], ""), ((node, row),))

    def tell_text(self, node):
        _, kind, text = self.seen[node]
        if kind != "file" or node not in self.row_of:
            return
        row = self.row_of[node]
        if self._writes.get(row[3]) != (row[1][1], text):
            self._tell_write(node, row, text)

    def tell_gone(self, node):
        if node in self.seen:
            return
        row = self.row_of[node]
        key, write, changes = row[1], row[3], ((node, None),)
        if not self._is_of_file(key):
            self._tell("gone", (key[1], row[4]), changes)
        elif write is not None:
            self._tell("gone", (key[1], (write,)), changes)
        else:
            self._take(None, changes)

    def _elder(self, place):
        """The known file in whose place another one is now, None if there is none."""
        for node in sorted(self.row_of):
            row = self.row_of[node]
            if node not in self.seen and is_alike(row[2], place) and self._is_of_file(row[1]):
                return node
        return None

    def _is_of_file(self, key):
        return key[0] == "beside" or self._kinds.get(key[1]) == "file"

    def _item_in(self, place):
        """The ITEM of the folder in which the place is, None for the root."""
        return None if place[0] == ROOT else self.row_of[place[0]][1][1]

    def _tell_born(self, node):
        place, kind, text = self.seen[node]
        dot = self._dot()
        row = (node, ("item", dot), place, None, (dot,))
        text = text if kind == "link" else ""
        self._tell("born", (kind, self._item_in(place), place[1], text), ((node, row),))

    def _tell_moved_over(self, node, elder):
        row = (node,) + self.row_of[elder][1:]
        self._tell_write(node, row, self.seen[node][2], ((elder, None),))

    def _tell_write(self, node, row, text, more=()):
        """Tells the text of the node, whose row this is ahead of it."""
        _, key, place, write, shown = row
        covers = () if write is None else (write,)
        dot = self._dot()
        behind = (node, key if key[0] == "item" else key[:2] + (dot,), place, dot, shown)
        changes = tuple(sorted([*more, (node, behind)]))
        self._tell("write", (key[1], text, covers), changes)

    def _dot(self):
        """The DOT that the next DEED will have."""
        return (self._life, self._number)

    def _tell(self, word, rest, changes):
        deed = (word, self._dot(), self._stamp) + rest
        if word == "write":
            self._writes[deed[1]] = deed[3:5]
        self._number += 1
        self._stamp += 1
        self._take(deed, changes)

    def _take(self, deed, changes):
        change_rows(self.row_of, changes)
        self.found.append((deed, changes))


def is_alike(one, other):
    """Whether two places are in one folder, with alike names; one may be None."""
    return one is not None and one[0] == other[0] and small(one[1]) == small(other[1])


def nodes_in(inside, top):
    """All nodes within the top one, by paths from it."""
    found = []
    waiting = [("", top)]
    while waiting:
        path, folder = waiting.pop()
        for name, node in inside.get(folder, []):
            row = (f"{path}/{name}" if path else name, node)
            found.append(row)
            waiting.append(row)
    return [node for path, node in sorted(found)]
