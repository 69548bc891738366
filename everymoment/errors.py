"""The errors of the package: one for each kind of refusal, all directly below MomentError."""


class MomentError(ValueError):
    """Stands above all errors of the package, and keeps what was refused, or where."""

    def __init__(self, value):
        self.value = value


class NoProgram(MomentError):
    """What is handed in as a program is no Program."""


class BadProgram(MomentError):
    """A text is no program: the number of the line at which it fails, 0 for what is no string."""


class BadLine(MomentError):
    """This is not the number of a line of the program."""


class NoPart(MomentError):
    """The program has no such part."""


class BadNumbers(MomentError):
    """This is no tuple of as many NUMBERS as the part has parameters."""


class Fault(MomentError):
    """A call faults at the line with this number."""


class NoDoor(MomentError):
    """The program has no such door."""


class NoField(MomentError):
    """The program has no such field."""


class NoRecord(MomentError):
    """There is no such record."""


class BadWay(MomentError):
    """This is no WAY of the program."""


class BadCalls(MomentError):
    """These are no CALLS: the number of the first one that is none, None for what is no tuple."""


class BadMany(MomentError):
    """This is no number of such deeds that there can be."""


class BadShape(MomentError):
    """This is no SHAPE of the program."""


class BadSpare(MomentError):
    """This is no SPARE."""


class BadMoment(MomentError):
    """This is no moment that can be asked."""


class BadMemory(MomentError):
    """This is no MEMORY of the program."""


class NoCharge(MomentError):
    """No paper of charges is told here."""


class BadPrice(MomentError):
    """This is no price."""


class BadTower(MomentError):
    """There is no such tower."""


class BadLevels(MomentError):
    """This is no number of levels."""


class BadShare(MomentError):
    """This is no part of a share."""


class BadMoments(MomentError):
    """These are no ascending moments that can be asked."""


class NotNeeded(MomentError):
    """This copy is not needed."""


class BadValue(MomentError):
    """This is neither a VALUE nor None."""


class LetGo(MomentError):
    """What was let go stands against it."""


class NothingToUndo(MomentError):
    """No deed stands that could be undone."""


class NothingToRedo(MomentError):
    """No deed was taken back that could be done again."""


class NoBlock(MomentError):
    """There is no block to be kept."""


class BadJournal(MomentError):
    """A text is no journal: the number of the line at which it fails, 0 for what is no string."""


class BadTask(MomentError):
    """This is no line that the desk takes."""
