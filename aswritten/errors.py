"""The errors that the package raises."""


class WrittenError(ValueError):
    """Stands above all errors of the package."""


class BadModel(WrittenError):
    """A value is no right model: the part that is wrong, and the number of its first wrong item."""

    def __init__(self, part, number):
        WrittenError.__init__(self, f"no right model: {part}, item {number}")
        self.part = part
        self.number = number


class BadView(WrittenError):
    """A value is no right view: the number of its first wrong item."""

    def __init__(self, number):
        WrittenError.__init__(self, f"no right view: item {number}")
        self.number = number


class BadText(WrittenError):
    """A text is wrong: the number of its first wrong line, counted from 1."""

    def __init__(self, line):
        WrittenError.__init__(self, f"wrong text: line {line}")
        self.line = line


class UnknownName(WrittenError):
    """There is nothing of this name."""

    def __init__(self, name):
        WrittenError.__init__(self, f"nothing has the name {name!r}")
        self.name = name


class BadRow(WrittenError):
    """A value is no right row."""

    def __init__(self):
        WrittenError.__init__(self, "no right row")


class BadWish(WrittenError):
    """A value is no right tuple of wishes."""

    def __init__(self):
        WrittenError.__init__(self, "no right wishes")


class NothingLeft(WrittenError):
    """There is nothing to undo or to redo."""

    def __init__(self):
        WrittenError.__init__(self, "nothing is left to undo or redo")


class TooFar(WrittenError):
    """A search would have more choices than it may have."""

    def __init__(self):
        WrittenError.__init__(self, "the search goes too far")
