"""What was there once, told back from what is heard."""

from allonetree.checks import check_heard
from allonetree.errors import BadStamp, NoItem, NoWrite
from allonetree.forms import is_dot, is_from, small
from allonetree.hearing import in_sequence
from allonetree.living import kinds_of, lives_of
from allonetree.moving import tree_of
from allonetree.pictures import entries_of, free_name, path_in


def versions(heard, item):
    """(DOT, TEXT, "shown", "beside" or "covered") for each write of a file, by sequence."""
    check_heard(heard)
    if not is_dot(item) or kinds_of(heard).get(item) != "file":
        raise NoItem(item)
    writes = [deed for deed in in_sequence(heard) if deed[0] == "write" and deed[3] == item]
    lives = lives_of(heard)[item]
    return tuple([(deed[1], deed[4], state_of(lives, deed[1])) for deed in writes])


def path_of(heard, item):
    """The PATH at which the item (None: the root) stands in the picture, None if it doesn't."""
    check_heard(heard)
    if item is None:
        return ""
    if not is_dot(item) or item not in kinds_of(heard):
        raise NoItem(item)
    return path_at(spots_in(entries_of(heard)), item)


def past(heard, stamp):
    """What had been heard with stamps up to this one."""
    check_heard(heard)
    if not is_from(stamp, 0):
        raise BadStamp(stamp)
    return tuple([deed for deed in heard if deed[2] <= stamp])


def restored(heard, dot):
    """The program's act that brings the write's TEXT back, None if it is in place."""
    check_heard(heard)
    spots = tree_of(heard).spots
    write = write_at(heard, dot)
    if write is None or kinds_of(heard).get(write[3]) != "file" or write[3] not in spots:
        raise NoWrite(dot)
    item, text = write[3:5]
    if lives_of(heard)[item][-1:] == (dot,):
        return None
    entries = entries_of(heard)
    path = path_at(spots_in(entries), item)
    return ("file", new_path(entries, spots, item) if path is None else path, text)


def state_of(lives, dot):
    if dot not in lives:
        return "covered"
    return "shown" if dot == lives[-1] else "beside"


def spots_in(entries):
    """(parent, name) in the picture by KEYS."""
    return {entry[0]: (entry[1], entry[2]) for entry in entries}


def path_at(spots, item):
    """The PATH of the item (None: the root), None if it isn't in the picture."""
    if item is None:
        return ""
    return path_in(spots, ("item", item)) if ("item", item) in spots else None


def write_at(heard, dot):
    if not is_dot(dot):
        return None
    writes = [deed for deed in heard if deed[0] == "write" and deed[1] == dot]
    return writes[0] if writes else None


def new_path(entries, spots, item):
    """Where a placed file that isn't in the picture can stand again."""
    shown = spots_in(entries)
    parent, name = spots[item]
    while path_at(shown, parent) is None:
        parent = spots[parent][0]
    taken = {small(entry[2]): True for entry in entries if entry[1] == parent}
    if small(name) in taken:
        name = free_name(taken, f"{name}.back")
    folder = path_at(shown, parent)
    return f"{folder}/{name}" if folder else name
