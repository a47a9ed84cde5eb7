"""Tells of any value whether it is what a keeper knows of its disc, by its form."""

from allonetree.forms import is_covers, is_dot, is_from, is_making, is_place


def is_key(value):
    if not isinstance(value, tuple) or len(value) not in (2, 3):
        return False
    word = "item" if len(value) == 2 else "beside"
    return value[0] == word and all([is_dot(dot) for dot in value[1:]])


def is_node(value):
    """Whether this can be the number of a node other than the root."""
    return is_from(value, 1)


def is_spot(value):
    return value is None or is_place(value)


def is_row(value):
    if not isinstance(value, tuple) or len(value) != 5:
        return False
    node, key, place, write, shown = value
    if not is_node(node) or not is_key(key) or not is_spot(place):
        return False
    return (write is None or is_dot(write)) and is_covers(shown)


def is_known(value):
    return is_tuple_of(is_row, value) and nodes_ascend(value)


def is_standing(value):
    return is_tuple_of(is_seen, value) and nodes_ascend(value)


def is_seen(value):
    """Whether this is a row of a STANDING."""
    if not isinstance(value, tuple) or len(value) != 4:
        return False
    return is_node(value[0]) and is_spot(value[1]) and is_making(value[2], value[3])


def is_changes(value):
    return is_tuple_of(is_change, value) and nodes_ascend(value)


def is_change(value):
    if not isinstance(value, tuple) or len(value) != 2 or not is_node(value[0]):
        return False
    row = value[1]
    return row is None or (is_row(row) and row[0] == value[0])


def is_tried(value):
    return isinstance(value, tuple) and all([is_from(node, 0) for node in value])


def is_tuple_of(form, value):
    return isinstance(value, tuple) and all([form(part) for part in value])


def nodes_ascend(rows):
    return all([one[0] < other[0] for one, other in zip(rows, rows[1:])])
