"""Sets of deeds made by chance: wild ones, with whatever a DEED can tell."""

NAMES = ("a", "A", "b", "B", "a.also1", "A.Also2", "a.clash1", "b.CLASH1", "c")
TEXTS = ("", "x", "y", "x | y", "= -")


def some_dot(chance, dots):
    """Mostly one of these."""
    return chance.choice(dots) if dots and chance.random() < 0.9 else (chance.randint(1, 5), chance.randint(0, 4))


def some_covers(chance, dots):
    return tuple(sorted({some_dot(chance, dots) for _ in range(chance.choice((0, 0, 1, 1, 2, 3)))}))


def some_deed(chance, dot, stamp, items, dots):
    """A DEED of one of these ITEMS, mostly; items: (DOT, KIND)."""
    folders = [item for item, kind in items if kind == "folder"]
    files = [item for item, kind in items if kind == "file"]
    word = chance.choice(("born", "born", "born", "put", "put", "write", "write", "gone"))
    parent = None if chance.random() < 0.3 else some_dot(chance, folders)
    name = chance.choice(NAMES)
    if word == "born":
        kind = chance.choice(("folder", "folder", "file", "file", "link"))
        return (word, dot, stamp, kind, parent, name, chance.choice(TEXTS) if kind == "link" else "")
    if word == "put":
        return (word, dot, stamp, some_dot(chance, [item for item, _ in items]), parent, name)
    if word == "write":
        item = some_dot(chance, files if chance.random() < 0.9 else dots)
        return (word, dot, stamp, item, chance.choice(TEXTS), some_covers(chance, dots))
    return (word, dot, stamp, some_dot(chance, [item for item, _ in items]), some_covers(chance, dots))


def wild(chance, lives=3, many=14):
    """A HEARD whose DEEDS were told one behind the other, all known to all."""
    numbers, stamps, deeds, items = {}, {}, [], []
    for _ in range(many):
        life = chance.randint(1, lives)
        dot = (life, numbers.get(life, 0))
        stamp = stamps.get(life, 0) + chance.choice((1, 1, 1, 2, 3))
        deed = some_deed(chance, dot, stamp, items, [deed[1] for deed in deeds] + [dot])
        deeds.append(deed)
        if deed[0] == "born":
            items.append((dot, deed[3]))
        numbers[life], stamps[life] = dot[1] + 1, stamp
    return tuple(sorted(deeds, key=lambda deed: deed[1]))


def sensible(chance, lives=3, many=30):
    """A HEARD as keepers tell: what a DEED tells of was born ahead of it."""
    numbers, stamps, deeds, items = {}, {}, [], []
    while len(deeds) < many:
        life = chance.randint(1, lives)
        dot = (life, numbers.get(life, 0))
        # Stamps are above all that was heard: not all of it is, everywhere.
        stamp = max([stamps.get(life, 0)] + [deed[2] for deed in deeds[-3:]]) + chance.choice((0, 1, 1))
        stamp = max(stamp, stamps.get(life, 0) + 1)
        parent = chance.choice([None] + [item for item, kind in items if kind == "folder"])
        if chance.random() < 0.25 or not items:
            kind = chance.choice(("folder", "file", "file", "link"))
            deed = ("born", dot, stamp, kind, parent, chance.choice(NAMES), "")
            items.append((dot, kind))
        else:
            item, kind = chance.choice(items)
            writes = [deed[1] for deed in deeds if deed[0] == "write" and deed[3] == item]
            covers = tuple(sorted({chance.choice(writes) for _ in writes[:2]}))
            if kind == "file" and chance.random() < 0.7:
                text = "once upon a time"[: chance.randint(5, 16)] + chance.choice(("", "x", " and more", "!" * 9))
                deed = ("write", dot, stamp, item, text, covers)
            elif chance.random() < 0.7:
                deed = ("put", dot, stamp, item, parent, chance.choice(NAMES))
            else:
                deed = ("gone", dot, stamp, item, covers)
        deeds.append(deed)
        numbers[life], stamps[life] = dot[1] + 1, stamp
    return tuple(sorted(deeds, key=lambda deed: deed[1]))


def shuffled(chance, heard):
    """The DEEDS in any sequence in which those of each LIFE go up."""
    lives = {}
    for deed in heard:
        lives.setdefault(deed[1][0], []).append(deed)
    found = []
    while lives:
        life = chance.choice(sorted(lives))
        found.append(lives[life].pop(0))
        if not lives[life]:
            del lives[life]
    return found


def part(chance, heard, most=6):
    """A HEARD of some of the DEEDS: of each LIFE the first ones."""
    cuts = {deed[1][0]: chance.randint(0, most) for deed in heard}
    return tuple(deed for deed in heard if deed[1][1] < cuts[deed[1][0]])
