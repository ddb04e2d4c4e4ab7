"""The errors of the package.

The constructors leave the message to Python, which keeps what an error was
created with: so a name of any kind can be told, and nothing is shown before
somebody asks for it.
"""


class CappedError(ValueError):
    """The base class of all errors that the package raises."""


class UnknownName(CappedError):
    """Nothing stands under this name."""

    def __init__(self, name):
        self.name = name


class SchemaMismatch(CappedError):
    """Two arguments belong to schemas that are not equal."""


class WidthMismatch(CappedError):
    """Two arguments have tuples of different widths."""


class LimitExceeded(CappedError):
    """Something is larger than the document allows."""

    def __init__(self, limit):
        self.limit = limit


class InvalidSchema(CappedError):
    """A schema that point 8 refuses."""

    def __init__(self, part, name):
        self.part = part
        self.name = name


class InvalidStore(CappedError):
    """A store that point 11 refuses."""

    def __init__(self, table, at):
        self.table = table
        self.at = at


class InvalidCall(CappedError):
    """A call without one value for each given column of its service."""

    def __init__(self, service):
        self.service = service


class InvalidChoice(CappedError):
    """A choice that point 15 refuses."""

    def __init__(self, service, given):
        self.service = service
        self.given = given


class InvalidProgram(CappedError):
    """A program that point 18 refuses."""

    def __init__(self, part, at):
        self.part = part
        self.at = at


class InvalidQuestion(CappedError):
    """A question that point 41 refuses."""

    def __init__(self, part, at):
        self.part = part
        self.at = at


class InvalidNote(CappedError):
    """A note whose form point 56 refuses."""

    def __init__(self, part):
        self.part = part


class Contradiction(CappedError):
    """A note that cannot be true beside what its log holds."""

    def __init__(self, word):
        self.word = word


class Unsteady(CappedError):
    """A program that had to be steady is not."""

    def __init__(self, which):
        self.which = which


class InvalidLine(CappedError):
    """A line that does not have its form."""

    def __init__(self, at):
        self.at = at


class NotNoted(CappedError):
    """A call that is not in the log."""

    def __init__(self, service, given):
        self.service = service
        self.given = given


class NoAnswers(CappedError):
    """There are no answers to run a program over."""


class NothingLeft(CappedError):
    """There is no change to undo or to redo."""

    def __init__(self, word):
        self.word = word
