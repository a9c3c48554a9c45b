"""The errors of the package.

Their messages do not show the values, which may be of any kind and size.
"""


class StageError(ValueError):
    """Stands above all other errors of the package; never raised itself."""


class InvalidNumber(StageError):
    """A number is not one that may stand in its place."""

    def __init__(self, number):
        super().__init__("not a number that may stand here")
        self.number = number


class InvalidCut(StageError):
    """A value is no cut of these layers into these stages."""

    def __init__(self, cut):
        super().__init__("not a cut of the layers into the stages")
        self.cut = cut


class InvalidRows(StageError):
    """Rows are not those of a lawful schedule."""

    def __init__(self, rows):
        super().__init__("not the rows of a lawful schedule")
        self.rows = rows


class NoMachine(StageError):
    """There is no such machine."""

    def __init__(self, machine):
        super().__init__("no such machine")
        self.machine = machine


class NoLetter(StageError):
    """No letter on the way has this place."""

    def __init__(self, number):
        super().__init__("no letter on the way has this place")
        self.number = number


class NotDone(StageError):
    """A machine has not done its row."""

    def __init__(self, machine):
        super().__init__("a machine has not done its row")
        self.machine = machine


class InvalidText(StageError):
    """A line of a text is wrong."""

    def __init__(self, text, line):
        super().__init__("a line of the text is wrong")
        self.text = text
        self.line = line


class TooMany(StageError):
    """There are too many to look through."""

    def __init__(self, many):
        super().__init__("too many to look through")
        self.many = many
