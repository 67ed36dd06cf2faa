"""The errors of the program."""


class OrderError(ValueError):
    """The base of all errors of the program."""


class InvalidTable(OrderError):
    """The words do not make a table; the value is the first wrong word, or None for a wrong length."""

    def __init__(self, value):
        self.value = value


class InvalidNumber(OrderError):
    """The number is none of those that are allowed."""

    def __init__(self, value):
        self.value = value


class InvalidWords(OrderError):
    """No name begins with the words up to the one at the index that is the value."""

    def __init__(self, value):
        self.value = value


class InvalidRange(OrderError):
    """The bounds do not make a range."""

    def __init__(self, value):
        self.value = value


class NothingToUndo(OrderError):
    """There is no call that could be taken back."""

    def __init__(self, value):
        self.value = value


class Unreadable(OrderError):
    """The text can not be read."""

    def __init__(self, value):
        self.value = value
