"""Maps, letters and gates, thought of once more, slowly and from the words of the document."""

import re

from tests import plain_forms, plain_heard, plain_keeping
from tests.plain_keeping import DEED, DOT, DOTS, NUMBER, deed_text, dots_text, read_deed, read_dot, read_dots

# Maps.


def is_map(value):
    def copy(one):
        return plain_forms.parts(
            one,
            plain_forms.word("copy"),
            lambda start: plain_forms.whole(start, 0),
            lambda many: plain_forms.whole(many, 1),
        ) and one[1] + one[2] <= 400

    def text(one):
        return plain_forms.parts(one, plain_forms.word("text"), plain_forms.text) and one[1] != ""

    return plain_forms.many(value, lambda one: copy(one) or text(one))


def built(old, value):
    """The text that is built, None if the value is no MAP for this TEXT, or builds none."""
    if not is_map(value):
        return None
    found = []
    for piece in value:
        if piece[0] == "text":
            found.extend(piece[1])
        else:
            for at in range(piece[1], piece[1] + piece[2]):
                if at >= len(old):
                    return None
                found.append(old[at])
    return "".join(found) if len(found) <= 400 else None


def cost(value):
    return sum(6 if piece[0] == "copy" else 2 + len(piece[1]) for piece in value)


def least_cost(old, new):
    """By all ways to cut the new TEXT into pieces."""
    least = [0]
    for end in range(1, len(new) + 1):
        ways = []
        for begin in range(end):
            ways.append(least[begin] + 2 + (end - begin))
            if new[begin:end] in old:
                ways.append(least[begin] + 6)
        least.append(min(ways))
    return least[-1]


def map_text(value):
    return "\n".join(" ".join(str(part) for part in piece) for piece in value)


def read_piece(line):
    found = re.fullmatch(rf"copy ({NUMBER}) ({NUMBER})", line)
    piece = ("copy", int(found[1]), int(found[2])) if found else None
    found = re.fullmatch(r"text ([ -~]+)", line)
    piece = ("text", found[1]) if found else piece
    return piece if piece is not None and is_map((piece,)) else None


def read_map(text):
    """The MAP, or the number of the first line that tells no piece."""
    if text == "":
        return ()
    found = [read_piece(line) for line in text.split("\n")]
    return found.index(None) + 1 if None in found else tuple(found)


# Letters.


def vector(heard):
    lives = sorted({deed[1][0] for deed in heard})
    return tuple((life, len([deed for deed in heard if deed[1][0] == life])) for life in lives)


def ask_letter(heard):
    return "ask" + "".join(" %d:%d" % row for row in vector(heard))


def read_letter(letter):
    """("ask", VECTOR), ("deeds", DEEDS), ("map", write without its text, base, MAP), or None."""
    if type(letter) is not str:
        return None
    lines = letter.split("\n")
    if re.fullmatch(rf"ask(?: {NUMBER}:{NUMBER})*", lines[0]) and len(lines) == 1:
        rows = tuple(tuple(int(number) for number in word.split(":")) for word in letter.split(" ")[1:])
        return ("ask", rows) if plain_forms.vector(rows) else None
    if lines[0] == "deeds" and len(lines) > 1:
        if not all(re.fullmatch(DEED, line) for line in lines[1:]):
            return None
        deeds = tuple(read_deed(line) for line in lines[1:])
        if not all(plain_forms.deed(deed) for deed in deeds):
            return None
        life, first = deeds[0][1]
        stamps = [deed[2] for deed in deeds]
        if [deed[1] for deed in deeds] != [(life, first + at) for at in range(len(deeds))]:
            return None
        return ("deeds", deeds) if stamps == sorted(set(stamps)) else None
    found = re.fullmatch(rf"map ({DOT}) ({NUMBER}) ({DOT}) ({DOTS}) ({DOT})", lines[0])
    if found:
        write = ("write", read_dot(found[1]), int(found[2]), read_dot(found[3]), "", read_dots(found[4]))
        pieces = read_map("\n".join(lines[1:])) if lines[1:] != [""] else 1
        if plain_forms.deed(write) and plain_forms.dot(read_dot(found[5])) and type(pieces) is tuple:
            return ("map", write, read_dot(found[5]), pieces)
    return None


def answers(heard, letter, most, map_of):
    """map_of tells which of the MAPS with the least cost is sent."""
    has = dict(read_letter(letter)[1])
    found = []
    for life in sorted({deed[1][0] for deed in heard}):
        begun = []
        for deed in heard:
            if deed[1][0] != life or deed[1][1] < has.get(life, 0):
                continue
            base = None
            if deed[0] == "write":
                own = [one for one in heard if one[0] == "write" and one[3] == deed[3]]
                own = [one for one in own if one[1][1] < has.get(one[1][0], 0)]
                base = plain_heard.sequence(own)[-1] if own else None
            if base is not None and least_cost(base[4], deed[4]) < len(deed[4]):
                pieces = map_of(base[4], deed[4])
                head = "map %d.%d %d %d.%d" % (deed[1] + (deed[2],) + deed[3])
                head = " ".join([head, dots_text(deed[5]), "%d.%d" % base[1]])
                found.append("\n".join([head] + [map_text((piece,)) for piece in pieces]))
                begun = []
                continue
            if begun == [] or len(begun) == most:
                begun = ["deeds"]
                found.append("")
                begun.pop()
            begun.append(deed_text(deed))
            found[-1] = "\n".join(["deeds"] + begun)
    return tuple(found)


# Gates.


class Gate:
    """All that was told stands in one list, and is gone through again and again."""

    def __init__(self, heard):
        self.heard = heard
        # (the DEED, the write without its text, base, MAP): the first one or the others are None.
        self.told = []

    @property
    def waiting(self):
        return tuple(sorted({dot_of(one) for one in self.told}))

    def deed_in(self, dot):
        return {deed[1]: deed for deed in self.heard}.get(dot)

    def take(self, letter):
        """The DEEDS that came in, or the dot that is unlike."""
        said = read_letter(letter)
        if said[0] == "deeds":
            for deed in said[1]:
                others = [one[0] for one in self.told if one[0] is not None] + list(self.heard)
                if any(other[1] == deed[1] and other != deed for other in others):
                    return deed[1]
            new = [(deed, None, None, None) for deed in said[1]]
        else:
            new = [(None,) + said[1:]] if said[0] == "map" else []
        self.told += [one for one in new if self.deed_in(dot_of(one)) is None and one not in self.told]
        return self.let_in()

    def hear(self, deed):
        if deed in self.heard:
            return ()
        self.bring_in(deed)
        return (deed,) + self.let_in()

    def let_in(self):
        came = []
        while True:
            able = [one for one in self.told if self.can(one)]
            if not able:
                return tuple(came)
            one = min(able, key=lambda one: (dot_of(one), one[0] is None, one[2], one[3], one[1]) if one[0] is None
                      else (dot_of(one), False))
            deed = self.worth(one)
            if deed is None:
                self.told.remove(one)
            else:
                self.bring_in(deed)
                came.append(deed)

    def bring_in(self, deed):
        self.heard = plain_keeping.heard_with(self.heard, deed)
        self.told = [one for one in self.told if dot_of(one) != deed[1]]

    def is_born(self, item):
        return self.deed_in(item) is not None and self.deed_in(item)[0] == "born"

    def can(self, one):
        deed, write, base, _ = one
        deed = write if deed is None else deed
        life, number = deed[1]
        if not all(self.deed_in((life, lesser)) is not None for lesser in range(number)):
            return False
        items = [] if deed[0] == "born" else [deed[3]]
        if deed[0] in ("born", "put") and deed[4] is not None:
            items.append(deed[4])
        return all(self.is_born(item) for item in items) and (base is None or self.deed_in(base) is not None)

    def worth(self, one):
        """The DEED, None if it cannot stand there."""
        deed, write, base, pieces = one
        if deed is None:
            base = self.deed_in(base)
            text = built(base[4], pieces) if base[0] == "write" else None
            if text is None:
                return None
            deed = write[:4] + (text,) + write[5:]
        life, number = deed[1]
        ahead = self.deed_in((life, number - 1))
        return deed if ahead is None or ahead[2] < deed[2] else None


def dot_of(one):
    return (one[1] if one[0] is None else one[0])[1]
