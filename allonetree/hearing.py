"""Sets of deeds as they are heard: what they have, what they lack, what they take up."""

from allonetree.checks import check_heard
from allonetree.errors import BadDeed, BadVector, Early, Unlike
from allonetree.forms import is_deed, is_vector


def vector(heard):
    """(LIFE, how many of its DEEDS) for each LIFE, ascending."""
    check_heard(heard)
    many = counts(heard)
    return tuple([(life, many[life]) for life in sorted(many)])


def lacks(heard, vector):
    """The DEEDS that one with this VECTOR has not heard."""
    check_heard(heard)
    if not is_vector(vector):
        raise BadVector(vector)
    has = dict(vector)
    return tuple([deed for deed in heard if deed[1][1] >= has.get(deed[1][0], 0)])


def joined(one, other):
    """The HEARD with all DEEDS of both."""
    check_heard(one)
    check_heard(other)
    deeds = by_dot(one)
    for deed in other:
        if deeds.setdefault(deed[1], deed) != deed:
            raise Unlike(deed[1])
    return ascending(deeds)


def hears(heard, deed):
    """The HEARD with the deed."""
    check_heard(heard)
    if not is_deed(deed):
        raise BadDeed(deed)
    deeds = by_dot(heard)
    check_hears(deeds, counts(heard), deed)
    if deed[1] in deeds:
        return heard
    return heard_with(heard, deed)


def check_hears(deeds, many, deed):
    """Raises why a DEED is not the next one of its LIFE, if it isn't one of these, by their DOTS."""
    life, number = deed[1]
    if deeds.get(deed[1], deed) != deed:
        raise Unlike(deed[1])
    if number > many.get(life, 0):
        raise Early((life, many.get(life, 0)))
    if not is_above(deeds, deed):
        raise BadDeed(deed)


def is_above(deeds, deed):
    """Whether the stamp is above that of the DEED ahead in its LIFE, which is among these."""
    life, number = deed[1]
    return number == 0 or deeds[(life, number - 1)][2] < deed[2]


def heard_with(heard, deed):
    """The HEARD with one DEED more, that can stand there."""
    return tuple(sorted(heard + (deed,), key=lambda one: one[1]))


def stamp_of(heard):
    """The least stamp that is above all others."""
    check_heard(heard)
    return next_stamp(heard)


def next_stamp(heard):
    return max([deed[2] for deed in heard], default=0) + 1


def counts(heard):
    """For each LIFE how many of its DEEDS there are."""
    many = {}
    for deed in heard:
        many[deed[1][0]] = many.get(deed[1][0], 0) + 1
    return many


def by_dot(heard):
    return {deed[1]: deed for deed in heard}


def ascending(deeds):
    """The HEARD of the DEEDS in a dict by their DOTS."""
    return tuple([deeds[dot] for dot in sorted(deeds)])


def in_sequence(deeds):
    return sorted(deeds, key=lambda deed: (deed[2], deed[1]))


def item_of(deed):
    """The ITEM of which the deed tells."""
    return deed[1] if deed[0] == "born" else deed[3]
