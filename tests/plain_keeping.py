"""What a keeper sees, tells, places and books, thought of once more, from the words of the document."""

import re

from tests import plain_forms, plain_heard


def on_disc(disc):
    """{node: (place, kind, text, moment)} for all but the root, the ROOM too."""
    return {node: disc.spot(node) for node in range(1, disc.next) if disc.spot(node) is not None}


def standing(disc):
    return tuple((node,) + spot[:3] for node, spot in sorted(on_disc(disc).items()))


def holds(disc, node):
    return any(spot[0] is not None and spot[0][0] == node for spot in on_disc(disc).values())


# Looks.


def seen_in(disc, folder):
    """What is read of a folder, or of the ROOM (None)."""
    if folder is not None and disc.spot(folder) is None:
        return "vanished"
    found = [None if folder is None else disc.spot(folder)[3]]
    for node, (place, kind, text, moment) in on_disc(disc).items():
        if (None if place is None else place[0]) == folder:
            found.append((node, place, kind) + ((text, moment) if kind != "folder" else ("",)))
    return found


def look(disc):
    """Yields, behind each step, the word that it tells, and at last the standing."""
    first = []
    for begin in ("root", "room"):
        if begin == "root":
            waiting = [("", "", 0)]
        else:
            first.append((None, seen_in(disc, None)))
            yield "on"
            waiting = [(f"{row[0]:09}", "", row[0]) for row in first[-1][1][1:] if row[2] == "folder"]
        while waiting:
            waiting = sorted(waiting)
            top, path, folder = waiting.pop(0)
            seen = seen_in(disc, folder)
            if seen == "vanished":
                yield "moved"
                return
            first.append((folder, seen))
            for row in seen[1:]:
                if row[2] == "folder":
                    waiting.append((top, "/".join([path, row[1][1]]) if path else row[1][1], row[0]))
            yield "on"
    for at, (folder, seen) in enumerate(first):
        if seen_in(disc, folder) != seen:
            yield "moved"
            return
        if at < len(first) - 1:
            yield "on"
    yield ("whole", tuple(sorted(row[:4] for _, seen in first for row in seen[1:])))


# What is told.


def first_told(heard, life, known, standing):
    """The first (deed, changes) that is to be told, None if none is."""
    rows = {row[0]: row for row in known}
    seen = {row[0]: row[1:] for row in standing}
    births = plain_heard.born(heard)
    head = ((life, len([deed for deed in heard if deed[1][0] == life])), max([deed[2] for deed in heard] + [0]) + 1)
    dot = head[0]

    def files(row):
        return row[1][0] == "beside" or (row[1][1] in births and births[row[1][1]][3] == "file")

    def above(node):
        """The nodes from the top one to this one; the top one is the root, or lies in the ROOM."""
        place = seen[node][0]
        if place is None:
            return [node]
        return ([0] if place[0] == 0 else above(place[0])) + [node]

    def path(node):
        return "/".join(seen[one][0][1] for one in above(node)[1:])

    def item(folder):
        return None if folder == 0 else rows[folder][1][1]

    def write(node, row, text, *more):
        covers = () if row[3] is None else (row[3],)
        key = row[1] if row[1][0] == "item" else ("beside", row[1][1], dot)
        new = (node, (node, key, row[2], dot, row[4]))
        return (("write",) + head + (row[1][1], text, covers), tuple(sorted((new,) + more, key=lambda one: one[0])))

    tops = [0] + [node for node in sorted(seen) if node in rows and seen[node][0] is None]
    for top in tops:
        for node in sorted([node for node in seen if above(node)[0] == top and node != top], key=path):
            place, kind, text = seen[node]
            if node not in rows:
                elder = [
                    row
                    for row in known
                    if row[2] is not None
                    and (row[2][0], row[2][1].lower()) == (place[0], place[1].lower())
                    and row[0] not in seen
                    and files(row)
                ]
                if kind == "file" and elder:
                    return write(node, elder[0], text, (elder[0][0], None))
                deed = ("born",) + head + (kind, item(place[0]), place[1], text if kind == "link" else "")
                return (deed, ((node, (node, ("item", dot), place, None, (dot,))),))
            row = rows[node]
            if row[2] == place:
                continue
            if row[1][0] == "item":
                deed = ("put",) + head + (row[1][1], item(place[0]), place[1])
                return (deed, ((node, (node, row[1], place, row[3], tuple(sorted(row[4] + (dot,))))),))
            deed = ("born",) + head + ("file", item(place[0]), place[1], "")
            return (deed, ((node, (node, ("item", dot), place, row[3], (dot,))),))
    writes = {deed[1]: deed for deed in heard if deed[0] == "write"}
    for node in sorted(seen):
        if seen[node][1] == "file" and node in rows:
            row = rows[node]
            last = writes.get(row[3])
            if last is None or last[3] != row[1][1] or last[4] != seen[node][2]:
                return write(node, row, seen[node][2])
    for row in known:
        if row[0] not in seen:
            if not files(row):
                return (("gone",) + head + (row[1][1], row[4]), ((row[0], None),))
            if row[3] is None:
                return (None, ((row[0], None),))
            return (("gone",) + head + (row[1][1], (row[3],)), ((row[0], None),))
    return None


def behind(known, changes):
    rows = {row[0]: row for row in known}
    rows.update(dict(changes))
    return tuple(row for _, row in sorted(rows.items()) if row is not None)


def heard_with(heard, deed):
    return heard if deed is None else tuple(sorted(heard + (deed,), key=lambda one: one[1]))


def told(heard, life, known, standing):
    found = []
    while True:
        one = first_told(heard, life, known, standing)
        if one is None:
            return tuple(found)
        found.append(one)
        heard, known = heard_with(heard, one[0]), behind(known, one[1])


# Placing.


class View:
    """One node of KNOWN that is still, or one KEY, with all that the lines of section 11 ask of it."""

    def __init__(self, heard, known, disc):
        self.known = known
        self.disc = disc
        self.entries = {entry[0]: entry for entry in plain_heard.entries(heard)}
        self.heard = heard
        spots = on_disc(disc)
        self.still = [row for row in known if row[0] in spots and spots[row[0]][0] == row[2]]

    def node_of(self, key):
        return min([row[0] for row in self.known if row[1] == key], default=None)

    def goal(self, row):
        entry = self.entries[row[1]]
        return (0 if entry[1] is None else self.node_of(("item", entry[1])), entry[2])

    def wanted(self, row):
        return row[1] in self.entries

    def other_text(self, row):
        return self.disc.spot(row[0])[2] != self.entries[row[1]][4]

    def untold(self, row):
        _, kind, text, _ = self.disc.spot(row[0])
        told = [deed[4] for deed in self.heard if deed[:2] == ("write", row[3]) and deed[3] == row[1][1]]
        return kind == "file" and told != [text]

    def five(self, row):
        if row[2] is None or not self.wanted(row) or row[2] != self.goal(row) or self.other_text(row):
            return False
        return row[3:] != plain_heard.shows(self.heard, row[1])


def due(heard, known, disc, tried):
    view = View(heard, known, disc)
    for row in view.still:
        if row[2] is None and (not view.wanted(row) or view.other_text(row)):
            if view.untold(row):
                return ("tell", row[0])
            if not holds(disc, row[0]):
                return ("drop", row[0])
    for row in view.still:
        if row[2] is not None and row[0] not in tried and not view.untold(row):
            if not view.wanted(row) or row[2] != view.goal(row) or view.other_text(row):
                return ("shift", row[0], row[2], None)
    for row in view.still:
        if row[2] is None and row[0] not in tried and view.wanted(row):
            folder = view.goal(row)[0]
            if folder is not None and disc.spot(folder) is not None:
                return ("shift", row[0], None, view.goal(row))
    for key, entry in view.entries.items():
        if view.node_of(key) is None:
            return ("make", key, entry[3], entry[4])
    for row in view.still:
        if view.five(row):
            return ("show", row[0])
    return None


def left(heard, known, disc):
    view = View(heard, known, disc)
    texts = len([row for row in view.still if row[2] is None and view.untold(row)])
    acts = 2 * len([key for key in view.entries if view.node_of(key) is None])
    for row in view.still:
        if row[2] is None:
            if not view.untold(row):
                acts += 3 if view.wanted(row) and view.other_text(row) else 1
        elif view.five(row):
            acts += 1
        elif view.untold(row):
            acts += 0
        elif not view.wanted(row):
            acts += 2
        elif view.other_text(row):
            acts += 4
        elif row[2] != view.goal(row):
            acts += 2
    return (texts, acts)


# Books.


def dots_text(dots):
    return ",".join("%d.%d" % dot for dot in dots) or "-"


def row_text(row):
    key = " ".join((row[1][0],) + tuple("%d.%d" % dot for dot in row[1][1:]))
    place = "room" if row[2] is None else "at %d %s" % row[2]
    return "%d %s %s %s %s" % (row[0], key, place, dots_text([row[3]] if row[3] else []), dots_text(row[4]))


def changes_text(changes):
    return " ; ".join("%d -" % node if row is None else row_text(row) for node, row in changes)


def deed_text(deed):
    def parent(one):
        return "root" if one is None else "%d.%d" % one

    rest = {
        "born": lambda kind, above, name, text: [kind, parent(above), name] + (["=" + text] if kind == "link" else []),
        "put": lambda item, above, name: ["%d.%d" % item, parent(above), name],
        "write": lambda item, text, covers: ["%d.%d" % item, dots_text(covers), "=" + text],
        "gone": lambda item, covers: ["%d.%d" % item, dots_text(covers)],
    }[deed[0]](*deed[3:])
    return " ".join([deed[0], "%d.%d" % deed[1], str(deed[2])] + rest)


def line(booked):
    return booked[0] + " " + {
        "life": str,
        "heard": deed_text,
        "told": lambda changes, deed: changes_text(changes) + " | " + deed_text(deed),
        "rows": changes_text,
        "shift": row_text,
        "done": str,
        "not": str,
    }[booked[0]](*booked[1:])


NUMBER = r"(?:0|[1-9][0-9]*)"
DOT = rf"{NUMBER}\.{NUMBER}"
DOTS = rf"(?:-|{DOT}(?:,{DOT})*)"
NAME = r"[A-Za-z0-9._-]+"
ROW = rf"{NUMBER} (?:item {DOT}|beside {DOT} {DOT}) (?:room|at {NUMBER} {NAME}) (?:-|{DOT}) {DOTS}"
CHANGE = rf"(?:{NUMBER} -|{ROW})"
CHANGES = rf"{CHANGE}(?: ; {CHANGE})*"
ABOVE = rf"(?:root|{DOT})"
DEED = rf"""(?x:born[ ]{DOT}[ ]{NUMBER}[ ](?:folder|file)[ ]{ABOVE}[ ]{NAME}
    |born[ ]{DOT}[ ]{NUMBER}[ ]link[ ]{ABOVE}[ ]{NAME}[ ]=[ -~]*
    |put[ ]{DOT}[ ]{NUMBER}[ ]{DOT}[ ]{ABOVE}[ ]{NAME}
    |write[ ]{DOT}[ ]{NUMBER}[ ]{DOT}[ ]{DOTS}[ ]=[ -~]*
    |gone[ ]{DOT}[ ]{NUMBER}[ ]{DOT}[ ]{DOTS})"""
LINE = re.compile(
    rf"life {NUMBER}|heard {DEED}|told {CHANGES} \| {DEED}|rows {CHANGES}|shift {ROW}|done {NUMBER}|not {NUMBER}"
)


def read_dot(word):
    return tuple(int(part) for part in word.split("."))


def read_dots(word):
    return () if word == "-" else tuple(read_dot(part) for part in word.split(","))


def read_row(text):
    words = text.split(" ")
    node, word = int(words.pop(0)), words.pop(0)
    key = (word,) + tuple(read_dot(words.pop(0)) for _ in range(1 if word == "item" else 2))
    place = None if words.pop(0) == "room" else (int(words.pop(0)), words.pop(0))
    write, shown = words
    return (node, key, place, None if write == "-" else read_dot(write), read_dots(shown))


def read_changes(text):
    found = []
    for part in text.split(" ; "):
        row = None if part.endswith(" -") and len(part.split(" ")) == 2 else read_row(part)
        found.append((int(part.split(" ")[0]), row))
    return tuple(found)


def read_deed(text):
    words = text.split(" ")
    head = (words[0], read_dot(words[1]), int(words[2]))
    above = {"root": None}
    if words[0] == "born":
        parent = above[words[4]] if words[4] in above else read_dot(words[4])
        return head + (words[3], parent, words[5], text.partition("=")[2])
    if words[0] == "put":
        parent = above[words[4]] if words[4] in above else read_dot(words[4])
        return head + (read_dot(words[3]), parent, words[5])
    if words[0] == "write":
        return head + (read_dot(words[3]), text.partition("=")[2], read_dots(words[4]))
    return head + (read_dot(words[3]), read_dots(words[4]))


def read_line(text):
    """The BOOKED, None if the line tells none."""
    if LINE.fullmatch(text) is None:
        return None
    word, _, rest = text.partition(" ")
    if word in ("life", "done", "not"):
        found = (word, int(rest))
    elif word == "heard":
        found = (word, read_deed(rest))
    elif word == "told":
        changes, _, deed = rest.partition(" | ")
        found = (word, read_changes(changes), read_deed(deed))
    else:
        found = (word, read_changes(rest) if word == "rows" else read_row(rest))
    return found if plain_forms.booked(found) else None


def read_on(told, text):
    """What is told behind one line more; None if it cannot stand there."""
    heard, known, shift = told
    booked = read_line(text)
    if booked is None:
        return None
    nodes = [row[0] for row in known]
    deed = booked[-1] if booked[0] in ("heard", "told") else None
    if deed is not None:
        if deed[1] in [one[1] for one in heard] or not plain_forms.heard(heard_with(heard, deed)):
            return None
        heard = heard_with(heard, deed)
    if booked[0] in ("told", "rows"):
        if not all(row is not None or node in nodes for node, row in booked[1]):
            return None
        known = behind(known, booked[1])
    if booked[0] == "shift":
        if shift is not None or booked[1][0] not in nodes:
            return None
        shift = booked[1]
    if booked[0] in ("done", "not"):
        if shift is None or shift[0] != booked[1]:
            return None
        if booked[0] == "done":
            known = behind(known, ((shift[0], shift),))
        shift = None
    return (heard, known, shift)


def read_book(disc):
    """As the document tells it, or the number of the line that cannot stand."""
    told = ((), (), None)
    for number, text in enumerate(disc.book, 1):
        told = read_on(told, text)
        if told is None:
            return number
    return told


def mending(disc):
    _, known, shift = read_book(disc)
    if shift is not None:
        spot = disc.spot(shift[0])
        return ("line", ("done %d" if spot is not None and spot[0] == shift[2] else "not %d") % shift[0])
    nodes = [row[0] for row in known]
    for node, spot in sorted(on_disc(disc).items()):
        if spot[0] is None and node not in nodes and not holds(disc, node):
            return ("drop", node)
    return None
