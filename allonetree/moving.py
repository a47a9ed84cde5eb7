"""The tree that bears moves: which borns and puts count, and where all is placed by them."""

from allonetree.checks import check_heard
from allonetree.errors import BadDeed, NoDeed, NoItem, Unlike
from allonetree.forms import is_deed, is_dot
from allonetree.hearing import in_sequence

MOVING = ("born", "put")


def places(heard):
    """(ITEM, parent, NAME) for all that is placed, ascending."""
    check_heard(heard)
    return spot_rows(tree_of(heard).spots)


def is_out(heard, dot):
    """Whether the born or put with this DOT is left out."""
    check_heard(heard)
    if not is_dot(dot) or dot not in [deed[1] for deed in heard if deed[0] in MOVING]:
        raise NoDeed(dot)
    return dot in tree_of(heard).left_out


def chain(heard, item):
    """The item, its parent, and so on, up to the one in the root."""
    check_heard(heard)
    spots = tree_of(heard).spots
    if not is_dot(item) or item not in spots:
        raise NoItem(item)
    found = [item]
    while spots[found[-1]][0] is not None:
        found.append(spots[found[-1]][0])
    return tuple(found)


class Tree:
    """What is placed by the borns and puts that were done so far."""

    def __init__(self):
        # (parent, NAME) of each ITEM that is placed.
        self.spots = {}
        # The ITEMS of these that are folders.
        self.folders = {}
        # The DOTS of what was done and changed nothing.
        self.left_out = {}

    def bear(self, deed):
        """Does a born or a put; returns what it is taken back by."""
        dot, item, parent, name = moved(deed)
        elder = self.spots.get(item)
        if not self._counts(deed, item, parent):
            self.left_out[dot] = True
        else:
            self.spots[item] = (parent, name)
            if deed[0] == "born" and deed[3] == "folder":
                self.folders[item] = True
        return (dot, item, elder)

    def take_back(self, done):
        dot, item, elder = done
        if dot in self.left_out:
            del self.left_out[dot]
        elif elder is not None:
            self.spots[item] = elder
        else:
            del self.spots[item]
            self.folders.pop(item, None)

    def _counts(self, deed, item, parent):
        if parent is not None and parent not in self.folders:
            return False
        if deed[0] == "born":
            return True
        return item in self.spots and not self._is_in(parent, item)

    def _is_in(self, parent, item):
        """Whether the parent is the item, or within it."""
        while parent is not None and parent != item:
            parent = self.spots[parent][0]
        return parent is not None


class Moves:
    """DEEDS as they are heard, in any sequence; at first none."""

    def __init__(self):
        self._deeds = {}
        # The borns and puts in sequence, and what each is taken back by.
        self._moves = []
        self._done = []
        self._tree = Tree()

    def added(self, deed):
        """Takes the deed up; how many borns and puts were undone for it."""
        if not is_deed(deed):
            raise BadDeed(deed)
        if self._deeds.setdefault(deed[1], deed) != deed:
            raise Unlike(deed[1])
        if deed[0] not in MOVING or deed in self._moves:
            return 0
        self._moves = in_sequence(self._moves + [deed])
        at = self._moves.index(deed)
        undone = len(self._done) - at
        while len(self._done) > at:
            self._tree.take_back(self._done.pop())
        for one in self._moves[at:]:
            self._done.append(self._tree.bear(one))
        return undone

    @property
    def places(self):
        return spot_rows(self._tree.spots)

    @property
    def many(self):
        return len(self._moves)


def tree_of(heard):
    tree = Tree()
    for deed in in_sequence([deed for deed in heard if deed[0] in MOVING]):
        tree.bear(deed)
    return tree


def moved(deed):
    """(DOT, ITEM, parent, NAME) of a born or a put."""
    if deed[0] == "born":
        return (deed[1], deed[1], deed[4], deed[5])
    return (deed[1], deed[3], deed[4], deed[5])


def spot_rows(spots):
    return tuple([(item,) + spots[item] for item in sorted(spots)])
