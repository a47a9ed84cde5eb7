"""Tells of any value whether it is one of the words that all sections share."""

KINDS = ("folder", "file", "link")
LAST_LIFE = 1000000
LONGEST_TEXT = 400
NAME_SIGNS = "abcdefghijklmnopqrstuvwxyzABCDEFGHIJKLMNOPQRSTUVWXYZ0123456789.-_"


def is_integer(value):
    return isinstance(value, int) and not isinstance(value, bool)


def is_from(value, least):
    return is_integer(value) and value >= least


def is_name(value):
    if not isinstance(value, str) or value in ("", ".", ".."):
        return False
    return all([sign in NAME_SIGNS for sign in value])


def small(name):
    """What two NAMES that are alike have in common, and no others."""
    return name.lower()


def is_path(value):
    if not isinstance(value, str):
        return False
    return value == "" or all([is_name(name) for name in value.split("/")])


def is_text(value):
    if not isinstance(value, str) or len(value) > LONGEST_TEXT:
        return False
    return all([" " <= sign <= "~" for sign in value])


def is_making(kind, text):
    """Whether a node of this kind can have this text."""
    return kind in KINDS and is_text(text) and (kind != "folder" or text == "")


def is_place(value):
    if not isinstance(value, tuple) or len(value) != 2:
        return False
    return is_from(value[0], 0) and is_name(value[1])


def is_life(value):
    return is_from(value, 1) and value <= LAST_LIFE


def is_dot(value):
    if not isinstance(value, tuple) or len(value) != 2:
        return False
    return is_life(value[0]) and is_from(value[1], 0)


def is_parent(value):
    return value is None or is_dot(value)


def is_covers(value):
    if not isinstance(value, tuple) or not all([is_dot(dot) for dot in value]):
        return False
    return all([one < other for one, other in zip(value, value[1:])])


def is_deed(value):
    if not isinstance(value, tuple) or len(value) < 3:
        return False
    if not is_dot(value[1]) or not is_from(value[2], 1):
        return False
    word, rest = value[0], value[3:]
    if word == "born":
        return is_born(rest)
    if word == "put":
        return is_put(rest)
    if word == "write":
        return is_write(rest)
    return word == "gone" and is_gone(rest)


def is_born(rest):
    if len(rest) != 4 or not is_parent(rest[1]) or not is_name(rest[2]):
        return False
    kind, text = rest[0], rest[3]
    return kind in KINDS and is_text(text) and (kind == "link" or text == "")


def is_put(rest):
    return len(rest) == 3 and is_dot(rest[0]) and is_parent(rest[1]) and is_name(rest[2])


def is_write(rest):
    return len(rest) == 3 and is_dot(rest[0]) and is_text(rest[1]) and is_covers(rest[2])


def is_gone(rest):
    return len(rest) == 2 and is_dot(rest[0]) and is_covers(rest[1])


def is_heard(value):
    if not isinstance(value, tuple) or not all([is_deed(deed) for deed in value]):
        return False
    return all([is_next(ahead, deed) for ahead, deed in zip((None,) + value, value)])


def is_next(ahead, deed):
    """Whether the deed can stand behind the one ahead of it (None: first) in a HEARD."""
    life, number = deed[1]
    if ahead is None or ahead[1][0] < life:
        return number == 0
    return ahead[1] == (life, number - 1) and ahead[2] < deed[2]


def is_vector(value):
    if not isinstance(value, tuple) or not all([is_count(row) for row in value]):
        return False
    return all([one[0] < other[0] for one, other in zip(value, value[1:])])


def is_count(value):
    """Whether this tells of one LIFE how many of its DEEDS there are."""
    if not isinstance(value, tuple) or len(value) != 2:
        return False
    return is_life(value[0]) and is_from(value[1], 1)
