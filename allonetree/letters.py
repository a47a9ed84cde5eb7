"""The letters that machines send to one another, as texts, and back."""

from allonetree.deeds import deed_in, deed_text, dot_text, dots_text, read_dot, read_dots, read_number
from allonetree.forms import is_deed, is_dot, is_vector
from allonetree.mapping import map_text, read_pieces


def ask_text(rows):
    """The letter that asks with a VECTOR."""
    return " ".join(["ask"] + [f"{life}:{many}" for life, many in rows])


def deeds_letter(deeds):
    return "\n".join(["deeds"] + [deed_text(deed) for deed in deeds])


def map_letter(write, base, pieces):
    """The letter that tells the write by a MAP of the text of the write called base."""
    _, dot, stamp, item, _, covers = write
    head = " ".join(["map", dot_text(dot), str(stamp), dot_text(item), dots_text(covers), dot_text(base)])
    return f"{head}\n{map_text(pieces)}" if pieces else head


def read_letter(letter):
    """("ask", VECTOR), ("deeds", DEEDS), ("map", a MAPPED), None if it is no letter.

    A MAPPED is (dot, base, MAP, stamp, item, covers): of those with one dot, the
    least one comes in first.
    """
    if not isinstance(letter, str):
        return None
    lines = letter.split("\n")
    words = lines[0].split(" ")
    reader = READERS.get(words[0])
    worth = None if reader is None else reader(words[1:], lines[1:])
    return None if worth is None else (words[0], worth)


def read_ask(words, lines):
    rows = tuple([tuple([read_number(part) for part in word.split(":")]) for word in words])
    return rows if is_vector(rows) and not lines else None


def read_deeds(words, lines):
    deeds = tuple([deed_in(line) for line in lines])
    if words or not deeds or None in deeds:
        return None
    return deeds if all([is_behind(one, other) for one, other in zip(deeds, deeds[1:])]) else None


def is_behind(one, other):
    """Whether the other DEED can be the next one of this one's LIFE."""
    return other[1] == (one[1][0], one[1][1] + 1) and other[2] > one[2]


def read_mapped(words, lines):
    pieces = read_pieces(lines)
    if len(words) != 5 or None in pieces:
        return None
    dot, stamp, item = read_dot(words[0]), read_number(words[1]), read_dot(words[2])
    covers, base = read_dots(words[3]), read_dot(words[4])
    if not is_deed(("write", dot, stamp, item, "", covers)) or not is_dot(base):
        return None
    return (dot, base, pieces, stamp, item, covers)


READERS = {"ask": read_ask, "deeds": read_deeds, "map": read_mapped}
