"""Raises the error that is named for what many functions are handed."""

from allonetree.discs import Disc
from allonetree.errors import BadHeard, BadKnown, BadLife, NoDisc
from allonetree.forms import is_heard, is_life
from allonetree.rows import is_known


def check_heard(heard):
    if not is_heard(heard):
        raise BadHeard(heard)


def check_life(life):
    if not is_life(life):
        raise BadLife(life)


def check_known(known):
    if not is_known(known):
        raise BadKnown(known)


def check_disc(disc):
    if not isinstance(disc, Disc):
        raise NoDisc(disc)
