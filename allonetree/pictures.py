"""What a folder has to be, by all that is heard."""

from allonetree.checks import check_heard
from allonetree.forms import small
from allonetree.living import lives_of, standing_of
from allonetree.moving import tree_of


def entries(heard):
    """(KEY, parent, name, KIND, TEXT) for all that is in the picture."""
    check_heard(heard)
    return entries_of(heard)


def picture(heard):
    """The ROWS of a folder in which just the ENTRIES stand."""
    check_heard(heard)
    found = entries_of(heard)
    # All parents are items: so their names are those of KEYS ("item", ITEM).
    named = {entry[0]: (entry[1], entry[2]) for entry in found}
    return tuple(sorted([(path_in(named, entry[0]),) + entry[3:] for entry in found]))


def path_in(named, key):
    """The PATH of the KEY, each of which has (parent, name) in named."""
    parent, path = named[key]
    while parent is not None:
        parent, name = named[("item", parent)]
        path = f"{name}/{path}"
    return path


def entries_of(heard):
    deeds = {deed[1]: deed for deed in heard}
    lives, spots = lives_of(heard), tree_of(heard).spots
    standing = standing_of(lives, spots)
    shown, beside = [], []
    for item in [item for item in sorted(standing) if item in spots]:
        born = deeds[item]
        text = born[6]
        if born[3] == "file":
            text = deeds[lives[item][-1]][4]
            for dot in sorted(lives[item][:-1]):
                beside.append((("beside", item, dot), spots[item], "file", deeds[dot][4]))
        shown.append((("item", item), spots[item], born[3], text))
    names = names_of(shown, beside)
    return tuple([(key, spot[0], names[key], kind, text) for key, spot, kind, text in shown + beside])


def names_of(shown, beside):
    """The name of each KEY, by the three rules of names."""
    names = {}
    # The names of each folder so far, made small.
    taken = {}
    alike = []
    for row in shown:
        parent, name = row[1]
        if small(name) in taken.setdefault(parent, {}):
            alike.append(row)
        else:
            taken[parent][small(name)] = True
            names[row[0]] = name
    for rows, end in ((alike, ".also"), (beside, ".clash")):
        for row in rows:
            parent, name = row[1]
            names[row[0]] = free_name(taken[parent], name + end)
            taken[parent][small(names[row[0]])] = True
    return names


def free_name(taken, begin):
    """What begins so, with the least integer behind it that no taken name is alike to."""
    number = 1
    while small(f"{begin}{number}") in taken:
        number += 1
    return f"{begin}{number}"
