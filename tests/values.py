"""Values of all kinds, and what a call raises, for all tests."""

from allonetree.discs import Disc


def nested(deep):
    value = ()
    for _ in range(deep - 1):
        value = (value,)
    return value


def any_values():
    """Some of each kind of value; none of them is a DEED, an act, or a line of one."""
    return [
        0,
        1,
        2,
        -1,
        999999999,
        True,
        False,
        None,
        "",
        "a",
        "file",
        "a b",
        "a\nb",
        "\u00e4",
        "\ud800",
        "=",
        (),
        (0,),
        (1, "a"),
        (1, 0),
        (True, "a"),
        ("folder",),
        ("gone",),
        ((1, 0),),
        ("born", (1, 0), 1),
        [],
        [0, "a"],
        ["folder", "a"],
        [1, 0],
        {},
        {"a": 1},
        {0: Disc()},
        Disc(),
        (Disc(),),
        [Disc(), (None, {})],
        nested(60),
        [nested(59)],
    ]


def raised(error, call, *values, **named):
    """The value that the call's error keeps; the error is of this very class."""
    try:
        call(*values, **named)
    except ValueError as found:
        if found.__class__ is not error:
            raise AssertionError(f"{found.__class__.__name__} instead of {error.__name__}") from found
        return found.value
    raise AssertionError(f"no {error.__name__} for {values!r}")
