"""The errors. Each one keeps the very objects that it is made of, without looking at them."""


class LateError(ValueError):
    """The base of all errors of this package."""


class PaperError(LateError):
    """The family of errors about papers."""


class StoreError(LateError):
    """The family of errors about stores and expressions."""


class TextError(LateError):
    """The family of errors about texts."""


class InvalidPaper(PaperError):
    """A checker does not accept a value; word tells why, at where."""

    def __init__(self, word, at):
        self.word = word
        self.at = at


class UnknownObject(StoreError):
    """There is no object of this number."""

    def __init__(self, number):
        self.number = number


class InvalidStep(StoreError):
    """A step cannot be done; word tells why."""

    def __init__(self, step, word):
        self.step = step
        self.word = word


class GoneCell(StoreError):
    """A cell cannot be told."""

    def __init__(self, cell):
        self.cell = cell


class UnfitExpression(StoreError):
    """The part of an expression at this place is wrong."""

    def __init__(self, path):
        self.path = path


class NothingToUndo(StoreError):
    """There is no step that could be undone."""

    def __init__(self, count):
        self.count = count


class InvalidPace(StoreError):
    """A store cannot have this pace."""

    def __init__(self, value):
        self.value = value


class InvalidText(TextError):
    """The word at this place of a text cannot stand there."""

    def __init__(self, row, field):
        self.row = row
        self.field = field


class InvalidCommand(TextError):
    """A desk does not know this command."""

    def __init__(self, text):
        self.text = text
