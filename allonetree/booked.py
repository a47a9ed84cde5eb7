"""What a line of a book can tell, as a tuple and as the line."""

from allonetree.deeds import deed_in, deed_text, dot_text, dots_text, read_dot, read_dots, read_number
from allonetree.forms import is_deed, is_life
from allonetree.rows import is_changes, is_node, is_row


def is_booked(value):
    if not isinstance(value, tuple) or len(value) not in (2, 3) or not isinstance(value[0], str):
        return False
    word, worth = value[0], value[1]
    if len(value) == 3:
        return word == "told" and is_some_changes(worth) and is_deed(value[2])
    if word == "life":
        return is_life(worth)
    if word == "heard":
        return is_deed(worth)
    if word == "rows":
        return is_some_changes(worth)
    if word == "shift":
        return is_row(worth)
    return word in ("done", "not") and is_node(worth)


def is_some_changes(value):
    return is_changes(value) and value != ()


def line_of(booked):
    """The line of a BOOKED."""
    word, worth = booked[0], booked[1]
    if word == "told":
        return f"told {changes_text(worth)} | {deed_text(booked[2])}"
    if word == "heard":
        return f"heard {deed_text(worth)}"
    if word == "rows":
        return f"rows {changes_text(worth)}"
    if word == "shift":
        return f"shift {row_text(worth)}"
    return f"{word} {worth}"


def changes_text(changes):
    return " ; ".join([f"{node} -" if row is None else row_text(row) for node, row in changes])


def row_text(row):
    """The words of a ROW, its node first."""
    node, key, place, write, shown = row
    words = [str(node), key[0]] + [dot_text(dot) for dot in key[1:]]
    words += ["room"] if place is None else ["at", str(place[0]), place[1]]
    return " ".join(words + ["-" if write is None else dot_text(write), dots_text(shown)])


def read_line(line):
    """The BOOKED that the line tells, None if it tells none."""
    word, _, rest = line.partition(" ")
    reader = READERS.get(word)
    if reader is None:
        return None
    booked = (word,) + reader(rest)
    return booked if is_booked(booked) else None


# What a word does not tell as it has to be told, the functions below read as
# something that has no place in a BOOKED: so is_booked alone judges the whole.


def read_number_line(rest):
    return (read_number(rest),)


def read_heard_line(rest):
    return (deed_in(rest),)


def read_told_line(rest):
    # No word of CHANGES has the sign that parts them from the DEED; its TEXT may.
    changes, _, deed = rest.partition(" | ")
    return (read_changes(changes), deed_in(deed))


def read_rows_line(rest):
    return (read_changes(rest),)


def read_shift_line(rest):
    return (read_row(rest),)


def read_changes(text):
    return tuple([read_change(part) for part in text.split(" ; ")])


def read_change(text):
    node, _, rest = text.partition(" ")
    return (read_number(node), None if rest == "-" else read_row(text))


def read_row(text):
    words = text.split(" ")
    # Behind the node the KEY has two words or three, and behind it the place one or three.
    at = 4 if words[1:2] == ["beside"] else 3
    key = tuple(words[1:2] + [read_dot(word) for word in words[2:at]])
    behind = at + (1 if words[at : at + 1] == ["room"] else 3)
    if len(words) != behind + 2:
        # None would tell that the node has no ROW.
        return ()
    place = read_place(words[at:behind])
    write = None if words[behind] == "-" else read_dot(words[behind])
    return (read_number(words[0]), key, place, write, read_dots(words[behind + 1]))


def read_place(words):
    if words == ["room"]:
        return None
    return (read_number(words[1]), words[2]) if words[0] == "at" else ()


READERS = {
    "life": read_number_line,
    "heard": read_heard_line,
    "told": read_told_line,
    "rows": read_rows_line,
    "shift": read_shift_line,
    "done": read_number_line,
    "not": read_number_line,
}
