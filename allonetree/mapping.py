"""Maps: a TEXT told by pieces of an elder one."""

from allonetree.deeds import read_number
from allonetree.errors import BadMap, BadText
from allonetree.forms import LONGEST_TEXT, is_from, is_text

COPY_COST = 6
# What a text costs beside its signs.
TEXT_COST = 2


def built(old, value):
    """What the MAP builds of the elder TEXT."""
    check_text(old)
    found = put_together(old, value) if is_map(value) else None
    if found is None:
        raise BadMap(value)
    return found


def cost(value):
    """How much the MAP costs, for whichever TEXT it is one."""
    if not is_map(value):
        raise BadMap(value)
    return cost_of(value)


def map_of(old, new):
    """A MAP with the least cost by which the new TEXT is built of the elder one."""
    check_text(old)
    check_text(new)
    return least_map(old, new)


def shows_map_of(old, new, value):
    """Whether the value is such a MAP as map_of can tell."""
    check_text(old)
    check_text(new)
    if not is_map(value) or put_together(old, value) != new:
        return False
    return cost_of(value) == cost_of(least_map(old, new))


def map_text(value):
    """The lines that tell the MAP."""
    if not is_map(value):
        raise BadMap(value)
    return "\n".join([" ".join([str(part) for part in piece]) for piece in value])


def read_map(text):
    """The MAP that the lines tell."""
    if not isinstance(text, str):
        raise BadMap(0)
    pieces = read_pieces(text.split("\n")) if text else ()
    if None in pieces:
        raise BadMap(pieces.index(None) + 1)
    return pieces


def check_text(text):
    if not is_text(text):
        raise BadText(text)


def is_map(value):
    """Whether this is a MAP for some TEXT."""
    return isinstance(value, tuple) and all([is_piece(piece) for piece in value])


def is_piece(value):
    if not isinstance(value, tuple) or len(value) not in (2, 3):
        return False
    if len(value) == 2:
        return value[0] == "text" and is_text(value[1]) and value[1] != ""
    if value[0] != "copy" or not is_from(value[1], 0) or not is_from(value[2], 1):
        return False
    return value[1] + value[2] <= LONGEST_TEXT


def put_together(old, pieces):
    """What the MAP builds, None if it is none for this TEXT, or builds no TEXT."""
    found = ""
    for piece in pieces:
        if piece[0] == "text":
            found = found + piece[1]
            continue
        start, many = piece[1:]
        if start + many > len(old):
            return None
        found = found + old[start : start + many]
    return found if len(found) <= LONGEST_TEXT else None


def cost_of(pieces):
    return sum([COPY_COST if piece[0] == "copy" else TEXT_COST + len(piece[1]) for piece in pieces])


def least_map(old, new):
    """By the least cost of each beginning of the new TEXT, and the last piece that it takes."""
    costs, lasts = [0], [None]
    text_cost, text_begin, copy_begin = None, 0, 0
    for end in range(1, len(new) + 1):
        if text_cost is None or costs[-1] + TEXT_COST < text_cost:
            text_cost, text_begin = costs[-1] + TEXT_COST, end - 1
        text_cost = text_cost + 1
        # A longer beginning costs no less than a shorter one: so of all copies
        # that end here the longest one is best, and it never begins ahead of
        # that which ended one sign ahead.
        while new[copy_begin:end] not in old:
            copy_begin = copy_begin + 1
        if copy_begin < end and costs[copy_begin] + COPY_COST <= text_cost:
            costs.append(costs[copy_begin] + COPY_COST)
            lasts.append(("copy", copy_begin))
        else:
            costs.append(text_cost)
            lasts.append(("text", text_begin))
    return pieces_back(old, new, lasts)


def pieces_back(old, new, lasts):
    """The pieces, gone through from the end by the last piece of each beginning: (word, where it begins)."""
    found, end = [], len(new)
    while end > 0:
        word, begin = lasts[end]
        signs = new[begin:end]
        found.append(("copy", old.find(signs), end - begin) if word == "copy" else ("text", signs))
        end = begin
    return tuple(reversed(found))


def read_pieces(lines):
    """The piece that each line tells, None for a line that tells none."""
    return tuple([read_piece(line) for line in lines])


def read_piece(line):
    word, _, rest = line.partition(" ")
    piece = (word, rest)
    if word == "copy":
        piece = (word,) + tuple([read_number(part) for part in rest.split(" ")])
    return piece if is_piece(piece) else None
