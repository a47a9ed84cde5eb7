"""What a set of deeds keeps, and what it has let go."""

from allonetree.checks import check_heard
from allonetree.errors import NoItem
from allonetree.forms import is_dot
from allonetree.hearing import in_sequence, item_of
from allonetree.moving import tree_of


def live(heard, item):
    """The DOTS of what lives of the item, in sequence."""
    check_heard(heard)
    lives = lives_of(heard)
    if not is_dot(item) or item not in lives:
        raise NoItem(item)
    return lives[item]


def stands(heard):
    """All ITEMS that stand, ascending."""
    check_heard(heard)
    return tuple(sorted(standing_of(lives_of(heard), tree_of(heard).spots)))


def clashes(heard):
    """(ITEM, DOTS of its live writes) for all files with several of them."""
    check_heard(heard)
    lives, kinds = lives_of(heard), kinds_of(heard)
    files = [item for item in sorted(lives) if kinds[item] == "file"]
    return tuple([(item, lives[item]) for item in files if len(lives[item]) > 1])


def kinds_of(heard):
    """The KIND of each ITEM that is born."""
    return {deed[1]: deed[3] for deed in heard if deed[0] == "born"}


def lives_of(heard):
    """For each ITEM that is born the DOTS of what lives of it, in sequence."""
    kinds = kinds_of(heard)
    covered = covered_in(heard)
    found = {item: [] for item in kinds}
    for deed in in_sequence(heard):
        item = item_of(deed)
        if item in kinds and keeps(deed[0], kinds[item]) and deed[1] not in covered:
            found[item].append(deed[1])
    return {item: tuple(found[item]) for item in found}


def keeps(word, kind):
    """Whether deeds that begin with the word keep things of this KIND."""
    return word == "write" if kind == "file" else word in ("born", "put")


def covered_in(heard):
    """The DOTS that a write or gone, other than their own, has in its COVERS."""
    found = {}
    for deed in heard:
        if deed[0] in ("write", "gone"):
            for dot in deed[-1]:
                if dot != deed[1]:
                    found[dot] = True
    return found


def standing_of(lives, spots):
    """The ITEMS of which something lives, and all above those that are placed."""
    found = {}
    for item in lives:
        above = item if lives[item] else None
        while above is not None:
            found[above] = True
            above = spots[above][0] if above in spots else None
    return found
