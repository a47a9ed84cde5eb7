"""How a folder is brought to the picture, by acts none of which can lose anything."""

from allonetree.checks import check_disc, check_heard, check_known
from allonetree.discs import ROOT
from allonetree.errors import BadAct, BadKey, BadNode, BadTried
from allonetree.forms import is_integer, is_making
from allonetree.hearing import item_of
from allonetree.living import kinds_of, lives_of
from allonetree.pictures import entries_of
from allonetree.rows import is_key, is_node, is_spot, is_tried


def shows(heard, key):
    """(write, shown) of a node that is put, or told, by what is heard now."""
    check_heard(heard)
    if not is_key(key):
        raise BadKey(key)
    return Wanted(heard).shown(key)


def due(heard, known, disc, tried):
    """The act that is due, None if none is."""
    check_heard(heard)
    check_known(known)
    check_disc(disc)
    if not is_tried(tried):
        raise BadTried(tried)
    return due_of(Wanted(heard), known, disc, tried)


def due_of(wanted, known, disc, tried):
    plan = Plan(wanted, known, disc)
    act = plan.clear_room()
    if act is None:
        act = plan.take_out(tried)
    if act is None:
        act = plan.put_in(tried)
    if act is None:
        act = plan.make_next()
    return plan.show_next() if act is None else act


def row_behind(heard, known, act, node):
    """The ROW of the node behind the act, None for drop."""
    check_heard(heard)
    check_known(known)
    rows = {row[0]: row for row in known}
    if not is_act_on(act, rows):
        raise BadAct(act)
    if not is_node(node) or (act[0] != "make" and node != act[1]):
        raise BadNode(node)
    return row_of(Wanted(heard), rows, act, node)


def row_of(wanted, rows, act, node):
    if act[0] == "drop":
        return None
    if act[0] == "make":
        return (node, act[1], None) + wanted.shown(act[1])
    _, key, place, write, shown = rows[node]
    if act[0] == "shift" and act[3] is None:
        return (node, key, None, write, shown)
    return (node, key, place if act[0] == "show" else act[3]) + wanted.shown(key)


def left(heard, known, disc):
    """(texts, acts): what each act that is done lessens."""
    check_heard(heard)
    check_known(known)
    check_disc(disc)
    plan = Plan(Wanted(heard), known, disc)
    away = [one for one in plan.still if one.where is None and one.is_untold]
    costs = [plan.cost_of(one) for one in plan.still if one.where is not None or not one.is_untold]
    return (len(away), 2 * len(plan.lacking()) + sum(costs))


def is_act_on(value, rows):
    """Whether this is an act, but no tell, of a node in these ROWS (any for make)."""
    if not isinstance(value, tuple) or len(value) not in (2, 4):
        return False
    if value[0] == "make":
        return len(value) == 4 and is_key(value[1]) and is_making(value[2], value[3])
    if not is_integer(value[1]) or value[1] not in rows:
        return False
    if len(value) == 2:
        return value[0] in ("drop", "show")
    place, goal = value[2], value[3]
    return value[0] == "shift" and is_spot(place) and is_spot(goal) and (place is None) != (goal is None)


class Wanted:
    """What is wanted by what is heard."""

    def __init__(self, heard):
        self.entries = entries_of(heard)
        # The TEXT of each write, by its ITEM and DOT.
        self.texts = {(deed[3], deed[1]): deed[4] for deed in heard if deed[0] == "write"}
        self._kinds = kinds_of(heard)
        self._lives = lives_of(heard)
        self._moves = moves_of(heard)

    def shown(self, key):
        """(write, shown) of a node of this KEY that is put, or told, now."""
        if key[0] == "beside":
            return (key[2], ())
        item = key[1]
        writes = self._lives[item] if self._kinds.get(item) == "file" else ()
        return (writes[-1] if writes else None, self._moves.get(item, ()))


class StillNode:
    """A node that is on the disc where its ROW tells."""

    def __init__(self, row, spot, told_text, entry, goal):
        self.node, self.key, self.where, self.write, self.dots = row
        self.kind, self.text = spot[1], spot[2]
        # Whether it is a file whose TEXT isn't that of its write.
        self.is_untold = self.kind == "file" and self.text != told_text
        # Its KEY's ENTRY, and the place that this tells; None where there is none.
        self.entry = entry
        self.goal = goal

    def has_text(self):
        """Whether its KEY is wanted with the TEXT that it has."""
        return self.entry is not None and self.entry[4] == self.text


class Plan:
    """What there is to do on a disc, by what is wanted and known."""

    def __init__(self, wanted, known, disc):
        self._wanted = wanted
        self._on = disc
        # Of the nodes of one KEY the least one counts: it is kept last.
        self._node_of = {row[1]: row[0] for row in reversed(known)}
        entry_of = {entry[0]: entry for entry in self._wanted.entries}
        self.still = [self._still_node(row, entry_of.get(row[1])) for row in known if is_still(row, disc)]

    def clear_room(self):
        for one in self.still:
            if one.where is not None or one.has_text():
                continue
            if one.is_untold:
                return ("tell", one.node)
            if not self._on.held(one.node):
                return ("drop", one.node)
        return None

    def take_out(self, tried):
        for one in self.still:
            if one.where is None or one.node in tried or one.is_untold:
                continue
            if not one.has_text() or one.where != one.goal:
                return ("shift", one.node, one.where, None)
        return None

    def put_in(self, tried):
        for one in self.still:
            if one.where is not None or one.node in tried or one.goal is None:
                continue
            if (one.kind != "file" or one.has_text()) and self._on.spot(one.goal[0]) is not None:
                return ("shift", one.node, None, one.goal)
        return None

    def make_next(self):
        lacking = self.lacking()
        return ("make", lacking[0][0]) + lacking[0][3:] if lacking else None

    def show_next(self):
        for one in self.still:
            if self._is_behind(one):
                return ("show", one.node)
        return None

    def lacking(self):
        """The ENTRIES whose KEYS have no node."""
        return [entry for entry in self._wanted.entries if entry[0] not in self._node_of]

    def cost_of(self, one):
        """How much a still node is to be done with."""
        is_wrong = one.entry is not None and not one.has_text()
        if one.where is None:
            return 3 if is_wrong else 1
        if self._is_behind(one):
            return 1
        if one.is_untold:
            return 0
        if is_wrong:
            return 4
        return 0 if one.where == one.goal else 2

    def _is_behind(self, one):
        """Whether it stands as it has to, and its ROW does not tell what it shows."""
        if one.where is None or one.where != one.goal or not one.has_text():
            return False
        return (one.write, one.dots) != self._wanted.shown(one.key)

    def _still_node(self, row, entry):
        told_text = self._wanted.texts.get((row[1][1], row[3]))
        return StillNode(row, self._on.spot(row[0]), told_text, entry, self._goal_of(entry))

    def _goal_of(self, entry):
        if entry is None:
            return None
        parent = ROOT if entry[1] is None else self._node_of.get(("item", entry[1]))
        return None if parent is None else (parent, entry[2])


def is_still(row, disc):
    spot = disc.spot(row[0])
    return spot is not None and spot[0] == row[2]


def moves_of(heard):
    """The DOTS of all borns and puts of each ITEM, ascending."""
    found = {}
    for deed in heard:
        if deed[0] in ("born", "put"):
            item = item_of(deed)
            found[item] = found.get(item, ()) + (deed[1],)
    return found
