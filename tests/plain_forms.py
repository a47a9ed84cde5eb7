"""Which values are what, thought of once more, and otherwise than the program does."""

import re

KINDS = ("folder", "file", "link")
NAME = re.compile(r"[A-Za-z0-9._-]+\Z")
TEXT = re.compile(r"[ -~]{0,400}\Z")


def whole(value, low, high=None):
    return type(value) is int and low <= value and (high is None or value <= high)


def name(value):
    return type(value) is str and NAME.match(value) is not None and value not in (".", "..")


def text(value):
    return type(value) is str and TEXT.match(value) is not None


def kind(value):
    return type(value) is str and value in KINDS


def life(value):
    return whole(value, 1, 10**6)


def stamp(value):
    return whole(value, 1)


def node(value):
    return whole(value, 1)


def parts(value, *forms):
    return type(value) is tuple and len(value) == len(forms) and all(form(one) for form, one in zip(forms, value))


def dot(value):
    return parts(value, life, lambda number: whole(number, 0))


def parent(value):
    return value is None or dot(value)


def many(value, form):
    return type(value) is tuple and all(form(one) for one in value)


def covers(value):
    return many(value, dot) and list(value) == sorted(set(value))


def word(*words):
    return lambda value: type(value) is str and value in words


def deed(value):
    return (
        parts(value, word("born"), dot, stamp, word("folder", "file"), parent, name, word(""))
        or parts(value, word("born"), dot, stamp, word("link"), parent, name, text)
        or parts(value, word("put"), dot, stamp, dot, parent, name)
        or parts(value, word("write"), dot, stamp, dot, text, covers)
        or parts(value, word("gone"), dot, stamp, dot, covers)
    )


def heard(value):
    if not many(value, deed):
        return False
    dots = [one[1] for one in value]
    if dots != sorted(set(dots)):
        return False
    for one in {dot[0] for dot in dots}:
        own = [deed for deed in value if deed[1][0] == one]
        stamps = [deed[2] for deed in own]
        if [deed[1][1] for deed in own] != list(range(len(own))) or stamps != sorted(set(stamps)):
            return False
    return True


def vector(value):
    if not many(value, lambda one: parts(one, life, lambda number: whole(number, 1))):
        return False
    lives = [one[0] for one in value]
    return lives == sorted(set(lives))


def key(value):
    return parts(value, word("item"), dot) or parts(value, word("beside"), dot, dot)


def place(value):
    return parts(value, lambda folder: whole(folder, 0), name)


def spot(value):
    return value is None or place(value)


def row(value):
    return parts(value, node, key, spot, parent, covers)


def ascend(value):
    nodes = [one[0] for one in value]
    return nodes == sorted(set(nodes))


def known(value):
    return many(value, row) and ascend(value)


def making(which, signs):
    return kind(which) and text(signs) and (signs == "" or which != "folder")


def standing(value):
    return many(value, lambda one: parts(one, node, spot, kind, text) and making(*one[2:])) and ascend(value)


def changes(value):
    def change(one):
        return parts(one, node, lambda worth: worth is None or row(worth)) and (one[1] is None or one[1][0] == one[0])

    return many(value, change) and ascend(value)


def tried(value):
    return many(value, lambda one: whole(one, 0))


def act(value):
    """Any act of section 11, tell among them."""
    return (
        parts(value, word("tell", "drop", "show"), node)
        or parts(value, word("shift"), node, place, lambda goal: goal is None)
        or parts(value, word("shift"), node, lambda ahead: ahead is None, place)
        or (parts(value, word("make"), key, kind, text) and making(*value[2:]))
    )


def booked(value):
    def some(one):
        return changes(one) and one != ()

    return (
        parts(value, word("life"), life)
        or parts(value, word("heard"), deed)
        or parts(value, word("told"), some, deed)
        or parts(value, word("rows"), some)
        or parts(value, word("shift"), row)
        or parts(value, word("done", "not"), node)
    )
