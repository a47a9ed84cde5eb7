"""What machines ask and answer, and the gate at which deeds come in."""

from allonetree.checks import check_heard
from allonetree.errors import BadDeed, BadLetter, BadNumber, Unlike
from allonetree.forms import is_deed, is_from
from allonetree.hearing import ascending, by_dot, check_hears, counts, in_sequence, is_above, lacks, vector
from allonetree.letters import ask_text, deeds_letter, map_letter, read_letter
from allonetree.mapping import cost_of, least_map, put_together

MOST_DEEDS = 20


def ask_letter(heard):
    """The letter that asks for all that is not heard."""
    return ask_text(vector(heard))


def answers(heard, letter, most):
    """The letters that tell what who asks has not heard."""
    check_heard(heard)
    said = read_letter(letter)
    if said is None or said[0] != "ask":
        raise BadLetter(letter)
    if not is_from(most, 1) or most > MOST_DEEDS:
        raise BadNumber(most)
    bases = bases_in(heard, said[1])
    found, run = [], []
    for deed in lacks(heard, said[1]):
        mapped = letter_by_map(bases, deed)
        if run and (mapped is not None or len(run) == most or run[-1][1][0] != deed[1][0]):
            found.append(deeds_letter(run))
            run = []
        if mapped is None:
            run.append(deed)
        else:
            found.append(mapped)
    return tuple(found + [deeds_letter(run)] if run else found)


def bases_in(heard, rows):
    """For each ITEM the last write, by sequence, that one with this VECTOR has."""
    has = dict(rows)
    writes = [deed for deed in heard if deed[0] == "write" and deed[1][1] < has.get(deed[1][0], 0)]
    return {deed[3]: deed for deed in in_sequence(writes)}


def letter_by_map(bases, deed):
    """The letter that tells a write by a MAP, None if it goes as it is."""
    base = bases.get(deed[3]) if deed[0] == "write" else None
    if base is None:
        return None
    pieces = least_map(base[4], deed[4])
    return map_letter(deed, base[1], pieces) if cost_of(pieces) < len(deed[4]) else None


class Gate:
    """What was heard, and what letters told that is not in as yet."""

    def __init__(self, heard):
        check_heard(heard)
        self._deeds = by_dot(heard)
        # How many DEEDS of each LIFE are in.
        self._many = counts(heard)
        self._in_rows = None
        # What waits, by DOTS: the DEED that a letter told, the MAPPED that letters told.
        self._told = {}
        self._mapped = {}
        # The LIVES of which letters told.
        self._lives = {}

    def take(self, letter):
        """The DEEDS that come in by the letter."""
        said = read_letter(letter)
        if said is None:
            raise BadLetter(letter)
        if said[0] == "deeds":
            self._keep_deeds(said[1])
        elif said[0] == "map":
            self._keep_mapped(said[1])
        return self._let_in()

    def hear(self, deed):
        """The DEEDS that come in with one of this machine's own."""
        if not is_deed(deed):
            raise BadDeed(deed)
        check_hears(self._deeds, self._many, deed)
        if deed[1] in self._deeds:
            return ()
        self._bring_in(deed)
        return (deed,) + self._let_in()

    @property
    def heard(self):
        if self._in_rows is None:
            self._in_rows = ascending(self._deeds)
        return self._in_rows

    @property
    def waiting(self):
        return tuple(sorted(set(list(self._told) + list(self._mapped))))

    def ask(self):
        """The letter that asks for all that is not in."""
        return ask_text([(life, self._many[life]) for life in sorted(self._many)])

    def twin(self):
        other = Gate(())
        other._deeds = {dot: self._deeds[dot] for dot in self._deeds}
        other._many = dict(self._many)
        other._told = {dot: self._told[dot] for dot in self._told}
        other._mapped = {dot: list(self._mapped[dot]) for dot in self._mapped}
        other._lives = dict(self._lives)
        return other

    def _keep_deeds(self, deeds):
        for deed in deeds:
            for known in (self._deeds, self._told):
                if known.get(deed[1], deed) != deed:
                    raise Unlike(deed[1])
        for deed in deeds:
            if deed[1] not in self._deeds:
                self._told[deed[1]] = deed
                self._lives[deed[1][0]] = True

    def _keep_mapped(self, mapped):
        dot = mapped[0]
        if dot in self._deeds or mapped in self._mapped.get(dot, []):
            return
        self._mapped.setdefault(dot, []).append(mapped)
        self._lives[dot[0]] = True

    def _let_in(self):
        """All that can come in, always the one with the least dot."""
        came = []
        deed = self._next_in()
        while deed is not None:
            self._bring_in(deed)
            came.append(deed)
            deed = self._next_in()
        return tuple(came)

    def _next_in(self):
        for life in sorted(self._lives):
            # No other DEED of this LIFE has its turn.
            dot = (life, self._many.get(life, 0))
            deed = self._told_in(dot)
            if deed is None:
                deed = self._mapped_in(dot)
            if deed is not None:
                return deed
        return None

    def _told_in(self, dot):
        """The DEED with this dot that a letter told, if it can come in now."""
        deed = self._told.get(dot)
        if deed is None or not self._has_births(deed):
            return None
        if is_above(self._deeds, deed):
            return deed
        del self._told[dot]
        return None

    def _mapped_in(self, dot):
        """The write with this dot that a map told, if it can come in now."""
        waiting = sorted(self._mapped.get(dot, []))
        for mapped in waiting:
            if mapped[1] in self._deeds and self._is_born(mapped[4]):
                deed = self._write_by(mapped)
                if deed is not None:
                    return deed
                self._let_go(mapped)
        return None

    def _write_by(self, mapped):
        """The write that the MAPPED tells, None if it tells none that can be in."""
        dot, base, pieces, stamp, item, covers = mapped
        base_deed = self._deeds[base]
        text = put_together(base_deed[4], pieces) if base_deed[0] == "write" else None
        if text is None:
            return None
        deed = ("write", dot, stamp, item, text, covers)
        return deed if is_above(self._deeds, deed) else None

    def _let_go(self, mapped):
        others = [one for one in self._mapped[mapped[0]] if one != mapped]
        if others:
            self._mapped[mapped[0]] = others
        else:
            del self._mapped[mapped[0]]

    def _has_births(self, deed):
        """Whether the births of the DEED's ITEM and of its parent are in."""
        word = deed[0]
        if word in ("born", "put") and deed[4] is not None and not self._is_born(deed[4]):
            return False
        return word == "born" or self._is_born(deed[3])

    def _is_born(self, item):
        return item in self._deeds and self._deeds[item][0] == "born"

    def _bring_in(self, deed):
        dot = deed[1]
        self._deeds[dot] = deed
        self._many[dot[0]] = dot[1] + 1
        self._in_rows = None
        # What else was told with this dot isn't waited for any more.
        self._told.pop(dot, None)
        self._mapped.pop(dot, None)
