"""Deeds as lines of words, and back."""

from allonetree.errors import BadDeed, BadText
from allonetree.forms import is_deed

FIGURES = "0123456789"
# Python neither reads nor writes integers of more figures than this.
MOST_FIGURES = 4300


def deed_text(deed):
    """The line that tells the deed."""
    if not is_deed(deed):
        raise BadDeed(deed)
    return " ".join([deed[0], dot_text(deed[1]), str(deed[2])] + words_behind(deed))


def read_deed(text):
    """The deed that the line tells."""
    deed = deed_in(text) if isinstance(text, str) else None
    if deed is None:
        raise BadText(text)
    return deed


def deed_in(line):
    """The deed that the line tells, None if it tells none."""
    reader = READERS.get(line.partition(" ")[0])
    if reader is None:
        return None
    deed = reader(line)
    return deed if is_deed(deed) else None


def words_behind(deed):
    """The words of the deed's line that follow its stamp."""
    if deed[0] == "born":
        kind, parent, name, text = deed[3:]
        words = [kind, parent_text(parent), name]
        return words + ["=" + text] if kind == "link" else words
    if deed[0] == "put":
        item, parent, name = deed[3:]
        return [dot_text(item), parent_text(parent), name]
    if deed[0] == "write":
        item, text, covers = deed[3:]
        return [dot_text(item), dots_text(covers), "=" + text]
    item, covers = deed[3:]
    return [dot_text(item), dots_text(covers)]


def dot_text(dot):
    return f"{dot[0]}.{dot[1]}"


def parent_text(parent):
    return "root" if parent is None else dot_text(parent)


def dots_text(dots):
    return ",".join([dot_text(dot) for dot in dots]) if dots else "-"


# What a word does not tell as it has to be told, the functions below read as
# something that has no place in a DEED: so is_deed alone judges the whole.


def read_number(word):
    if word == "" or len(word) > MOST_FIGURES:
        return None
    if not all([sign in FIGURES for sign in word]) or (word[0] == "0" and word != "0"):
        return None
    return int(word)


def read_dot(word):
    return tuple([read_number(part) for part in word.split(".")])


def read_parent(word):
    return None if word == "root" else read_dot(word)


def read_dots(word):
    return () if word == "-" else tuple([read_dot(part) for part in word.split(",")])


def read_told(word):
    return word[1:] if word.startswith("=") else None


def read_head(words):
    return (words[0], read_dot(words[1]), read_number(words[2]))


def read_born(line):
    words = line.split(" ", 6)
    if len(words) < 6 or (words[3] == "link") != (len(words) == 7):
        return None
    text = read_told(words[6]) if words[3] == "link" else ""
    return read_head(words) + (words[3], read_parent(words[4]), words[5], text)


def read_put(line):
    words = line.split(" ")
    if len(words) != 6:
        return None
    return read_head(words) + (read_dot(words[3]), read_parent(words[4]), words[5])


def read_write(line):
    # The text is all that is left of the line: blanks do not end it.
    words = line.split(" ", 5)
    if len(words) != 6:
        return None
    return read_head(words) + (read_dot(words[3]), read_told(words[5]), read_dots(words[4]))


def read_gone(line):
    words = line.split(" ")
    if len(words) != 5:
        return None
    return read_head(words) + (read_dot(words[3]), read_dots(words[4]))


READERS = {"born": read_born, "put": read_put, "write": read_write, "gone": read_gone}
