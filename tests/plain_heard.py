"""What a set of deeds comes to, thought of once more, slowly and from the words of the document."""


def sequence(deeds):
    return sorted(deeds, key=lambda deed: (deed[2], deed[1]))


def item_of(deed):
    return deed[1] if deed[0] == "born" else deed[3]


def gone_through(heard):
    """(ITEM: (parent, NAME)) behind the last one, and the DOTS of what was left out."""
    placed, out = {}, []
    kinds = {deed[1]: deed[3] for deed in heard if deed[0] == "born"}

    def within(one, other):
        above = placed[one][0]
        return above is not None and (above == other or within(above, other))

    for deed in sequence(deed for deed in heard if deed[0] in ("born", "put")):
        item, parent, name = item_of(deed), deed[4], deed[5]
        fits = parent is None or (parent in placed and kinds[parent] == "folder")
        if deed[0] == "put" and fits:
            fits = item in placed and (parent is None or (parent != item and not within(parent, item)))
        if fits:
            placed[item] = (parent, name)
        else:
            out.append(deed[1])
    return placed, out


def places(heard):
    return tuple(sorted((item,) + spot for item, spot in gone_through(heard)[0].items()))


def born(heard):
    return {deed[1]: deed for deed in heard if deed[0] == "born"}


def covered(heard, dot):
    return any(deed[0] in ("write", "gone") and deed[1] != dot and dot in deed[-1] for deed in heard)


def live(heard, item):
    words = ("write",) if born(heard)[item][3] == "file" else ("born", "put")
    own = [deed for deed in heard if deed[0] in words and item_of(deed) == item]
    return tuple(deed[1] for deed in sequence(own) if not covered(heard, deed[1]))


def stands(heard):
    placed = gone_through(heard)[0]
    found = {item for item in born(heard) if live(heard, item)}
    while True:
        above = {placed[item][0] for item in found if item in placed} - {None}
        if above <= found:
            return tuple(sorted(found))
        found |= above


def clashes(heard):
    files = [item for item, deed in sorted(born(heard).items()) if deed[3] == "file"]
    return tuple((item, live(heard, item)) for item in files if len(live(heard, item)) >= 2)


def entries(heard):
    """By folders, each by the three rules of names."""
    placed, births = gone_through(heard)[0], born(heard)
    texts = {deed[1]: deed[4] for deed in heard if deed[0] == "write"}
    in_picture = [item for item in stands(heard) if item in placed]
    found = []
    for folder in [None] + in_picture:
        inner = [item for item in in_picture if placed[item][0] == folder]
        names = {}

        def taken(name):
            return name.lower() in [other.lower() for other in names.values()]

        def numbered(begin):
            return next(f"{begin}{number}" for number in range(1, 10**6) if not taken(f"{begin}{number}"))

        for at, item in enumerate(inner):
            if placed[item][1].lower() not in [placed[other][1].lower() for other in inner[:at]]:
                names[("item", item)] = placed[item][1]
        for item in inner:
            if ("item", item) not in names:
                names[("item", item)] = numbered(placed[item][1] + ".also")
        for item in inner:
            if births[item][3] == "file":
                for dot in sorted(live(heard, item)[:-1]):
                    names[("beside", item, dot)] = numbered(placed[item][1] + ".clash")
        for key, name in names.items():
            kind, text = births[key[1]][3], births[key[1]][6]
            if kind == "file":
                text = texts[key[2] if key[0] == "beside" else live(heard, key[1])[-1]]
            found.append((key, folder, name, kind, text))
    return tuple(sorted(found, key=lambda entry: (entry[0][0] == "beside", entry[0])))


def picture(heard):
    found = entries(heard)
    rows = []
    for key, parent, name, kind, text in found:
        path = name
        while parent is not None:
            above = [entry for entry in found if entry[0] == ("item", parent)][0]
            parent, path = above[1], above[2] + "/" + path
        rows.append((path, kind, text))
    return tuple(sorted(rows))


def shows(heard, key):
    if key[0] == "beside":
        return (key[2], ())
    births = born(heard)
    writes = live(heard, key[1]) if key[1] in births and births[key[1]][3] == "file" else ()
    moves = [deed[1] for deed in heard if deed[0] in ("born", "put") and item_of(deed) == key[1]]
    return (writes[-1] if writes else None, tuple(sorted(moves)))
