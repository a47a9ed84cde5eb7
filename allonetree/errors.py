"""The errors of all sections. Each keeps, as value, what it was created with."""


class TreeError(ValueError):
    """What all errors of this package derive from."""

    def __init__(self, value):
        self.value = value


class BadDeed(TreeError):
    """What was handed in is no DEED."""


class BadHeard(TreeError):
    """What was handed in is no HEARD."""


class BadVector(TreeError):
    """What was handed in is no VECTOR."""


class BadText(TreeError):
    """What was handed in is no TEXT, or no line that tells something."""


class Unlike(TreeError):
    """Two unlike DEEDS have this DOT."""


class Early(TreeError):
    """The DEED with this DOT has to be heard first."""


class NoItem(TreeError):
    """No such ITEM is there."""


class NoDisc(TreeError):
    """What was handed in is no Disc."""


class BadAct(TreeError):
    """What was handed in is no act."""


class Refused(TreeError):
    """The disc refuses a program's deed, by this word."""


class BadNode(TreeError):
    """What was handed in is not the NODE of the act."""


class BadLine(TreeError):
    """What was handed in is no line for a book."""


class LookOver(TreeError):
    """The look is over; this is what it told last."""


class BadKnown(TreeError):
    """What was handed in is no KNOWN."""


class BadStanding(TreeError):
    """What was handed in is no STANDING."""


class BadLife(TreeError):
    """What was handed in is no LIFE."""


class UsedLife(TreeError):
    """This LIFE was used before."""


class BadBook(TreeError):
    """The line of the book with this number cannot stand there."""


class BadMap(TreeError):
    """What was handed in is no MAP."""


class BadLetter(TreeError):
    """What was handed in is no letter."""


class BadNames(TreeError):
    """What was handed in are no names of machines."""


class NoMachine(TreeError):
    """No machine has this name."""


class Fallen(TreeError):
    """No keeper runs at this machine."""


class Running(TreeError):
    """A keeper runs at this machine."""


class NoBackup(TreeError):
    """Nothing was saved of this machine's disc."""


class BadWord(TreeError):
    """What was handed in is no word of a step."""


class BadNumber(TreeError):
    """What was handed in is no number that can stand there."""


class NothingToUndo(TreeError):
    """No deed stands that could be taken back."""


class NothingToRedo(TreeError):
    """No deed was taken back that could be done again."""


class NoBlock(TreeError):
    """Nothing is tried that could be kept."""


class BadJournal(TreeError):
    """The line of the journal with this number cannot stand there."""


class BadTask(TreeError):
    """What was handed in is no line that tells what to do."""


class BadStamp(TreeError):
    """What was handed in is no stamp."""


class NoWrite(TreeError):
    """No such write is there."""


class BadChanges(TreeError):
    """What was handed in are no changes of a KNOWN."""


class BadKey(TreeError):
    """What was handed in is no KEY."""


class BadTried(TreeError):
    """What was handed in are no NODES that were tried."""


class BadBooked(TreeError):
    """What was handed in is nothing that a line of a book tells."""


class NoDeed(TreeError):
    """No such DEED is there."""
