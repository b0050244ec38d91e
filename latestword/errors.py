"""The errors of the package, each with what it tells of itself."""


class OfficeError(ValueError):
    """What all errors of the package are."""


class BadOffice(OfficeError):
    """A part of an office is not as told."""

    def __init__(self, part):
        self.part = part


class BadBook(OfficeError):
    """A part of a book is not as told."""

    def __init__(self, part):
        self.part = part


class BadMachine(OfficeError):
    """A part of a machine is not as told."""

    def __init__(self, part):
        self.part = part


class BadText(OfficeError):
    """A line of a text has no form that can stand there."""

    def __init__(self, line):
        self.line = line


class BadDealer(OfficeError):
    """A dealer returned no label for the last event of a row."""

    def __init__(self, row):
        self.row = row


class BadWorker(OfficeError):
    """A worker returned no notes for the last work of a row."""

    def __init__(self, row):
        self.row = row


class TooMany(OfficeError):
    """There are more things than a function takes."""

    def __init__(self, most):
        self.most = most


class NoName(OfficeError):
    """There is no book of this name."""

    def __init__(self, name):
        self.name = name


class NoWork(OfficeError):
    """This is no work of the office."""


class NoDesk(OfficeError):
    """This is no desk of the office."""


class NoLot(OfficeError):
    """This is no lot of desks of the office."""


class NoRow(OfficeError):
    """This is no row of works of the office."""


class NoLogs(OfficeError):
    """These are no logs of the desks."""


class NoPlace(OfficeError):
    """This is no event."""


class NoSlip(OfficeError):
    """This has no slip's form."""


class NoSlips(OfficeError):
    """This is no tuple of slips, one for each desk of the work."""


class NoLabels(OfficeError):
    """These are no labels for the row."""


class NoMany(OfficeError):
    """This is no number that can be asked for here."""


class NoMatch(OfficeError):
    """The two are not of one office."""


class NoPairs(OfficeError):
    """This is no ascending tuple of pairs of works."""


class NotEven(OfficeError):
    """The book is not even."""


class NoNotes(OfficeError):
    """This is no tuple of notes, one for each desk."""


class NotShareable(OfficeError):
    """The book cannot be shared out."""


class NoLength(OfficeError):
    """This is no length of a row."""


class NoNumber(OfficeError):
    """There is nothing with this number."""


class NothingDone(OfficeError):
    """There is nothing to take back."""


class NoLine(OfficeError):
    """This is no line that the hatch can do."""


class NoCounts(OfficeError):
    """These are no counts for the row."""


class NoCut(OfficeError):
    """These counts are no cut."""


class NoGoals(OfficeError):
    """These are no goals from the one book to the other."""


class NoNote(OfficeError):
    """This has no note's form."""


class NotComing(OfficeError):
    """Some standing comes by no row."""


class NoLetter(OfficeError):
    """No letter in the air has this number."""


class IsDown(OfficeError):
    """The desk is down."""


class IsUp(OfficeError):
    """The desk is up."""


class NoJournals(OfficeError):
    """These are no journals of the desks."""


class Faulty(OfficeError):
    """The journals have a fault."""
