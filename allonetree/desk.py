"""A desk: a bench to which lines are said, also such as only ask."""

from allonetree.errors import BadTask
from allonetree.journals import read_journal
from allonetree.tasks import read_task, words_of


class Desk:
    """A desk at the bench of which the journal tells."""

    def __init__(self, text):
        self._bench = read_journal(text)

    @property
    def bench(self):
        return self._bench

    def say(self, line):
        """Does, or tells, what the line asks for."""
        if read_task(line) is not None:
            return self._bench.do(line)
        if not isinstance(line, str) or "\n" in line:
            raise BadTask(line)
        words = words_of(line)
        if words in (["undo"], ["redo"]):
            return self._step_back_or_on(words[0])
        if words == ["alike"]:
            return yes_or_no(self._bench.world().alike())
        if words == ["letters"]:
            return str(len(self._bench))
        if len(words) == 2 and words[0] == "rows":
            return rows_text(self._bench.world().rows(words[1]))
        if len(words) == 2 and words[0] == "running":
            return yes_or_no(self._bench.world().keeper_of(words[1]) is not None)
        raise BadTask(line)

    def _step_back_or_on(self, word):
        if word == "undo":
            self._bench.undo()
        else:
            self._bench.redo()
        return "done"


def yes_or_no(said):
    return "yes" if said else "no"


def rows_text(rows):
    """PATH, KIND and TEXT of all rows."""
    return " ; ".join([" ".join([part for part in row if part != ""]) for row in rows]) if rows else "none"
