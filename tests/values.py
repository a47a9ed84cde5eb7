"""Values of all kinds, and what a call raises, for all tests."""

from allonetree.benches import Bench
from allonetree.desk import Desk
from allonetree.discs import Disc
from allonetree.keeping import Keeper
from allonetree.lettering import Gate
from allonetree.looking import Look
from allonetree.moving import Moves
from allonetree.worlds import World


def nested(deep):
    value = ()
    for _ in range(deep - 1):
        value = (value,)
    return value


def any_values():
    """Some of each kind of value; none of them is a DEED, an act, or a line of one."""
    return [
        0,
        1,
        2,
        -1,
        999999999,
        True,
        False,
        None,
        "",
        "a",
        "file",
        "a b",
        "a\nb",
        "\u00e4",
        "\ud800",
        "=",
        (),
        (0,),
        (1, "a"),
        (1, 0),
        (True, "a"),
        ("folder",),
        ("gone",),
        ((1, 0),),
        ("born", (1, 0), 1),
        [],
        [0, "a"],
        ["folder", "a"],
        [1, 0],
        {},
        {"a": 1},
        {0: Disc()},
        Disc(),
        (Disc(),),
        [Disc(), (None, {})],
        Moves(),
        (Moves(), Look(Disc())),
        Look(Disc()),
        Gate(()),
        Keeper(Disc(), 1),
        World(("a",)),
        [World(("a", "b"))],
        Bench(("a",)),
        ("folder", Bench(("a", "b"))),
        Desk("names a\ndeeds"),
        {"desk": (Desk("names a\ndeeds"), None)},
        nested(60),
        [nested(59)],
    ]


def bends(value):
    """The value with one part of it, or all of it, put otherwise; most of these are of no good form."""
    if isinstance(value, tuple):
        found = [list(value), value[:-1], value[1:], value[::-1], value + value[-1:], value + (None,), (value,), None]
        for at, part in enumerate(value):
            found.extend([value[:at] + (bent,) + value[at + 1 :] for bent in bends(part)])
        return found
    if value is None:
        return [0, False, "", "root", (), (1, 0), [1, 0]]
    if isinstance(value, str):
        return [value + " ", value + "\n", value + "/", "", ".", None, 1, (value,), [value], value.upper()]
    if isinstance(value, int):
        return [value == 1, str(value), None, -1, 0, value + 1, 10**6 + value, (value,), [value]]
    return [(value,), [value], {0: value}, None]


def raised(error, call, *values, **named):
    """The value that the call's error keeps; the error is of this very class."""
    try:
        call(*values, **named)
    except ValueError as found:
        if found.__class__ is not error:
            raise AssertionError(f"{found.__class__.__name__} instead of {error.__name__}") from found
        return found.value
    raise AssertionError(f"no {error.__name__} for {values!r}")
