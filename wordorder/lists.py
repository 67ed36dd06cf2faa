"""Lists of different numbers that stay in alphabetical order."""

from wordorder.errors import InvalidNumber, NothingToUndo
from wordorder.letters import letters
from wordorder.names import check_number, spelled
from wordorder.ranges import check_range, in_order
from wordorder.tables import check_table, copied


class NameList:
    """A list of different numbers in alphabetical order."""

    def __init__(self, table):
        check_table(table)
        self._table = copied(table)
        # No list of numbers is changed once it is kept here, so the past may keep the lists themselves.
        self._numbers = []
        self._past = []

    @classmethod
    def of_range(cls, table, low, high):
        """Return an object with all numbers of a range."""
        check_range(table, low, high)
        made = cls(table)
        made._numbers = list(in_order(table, low, high))
        return made

    @property
    def numbers(self):
        """The list of the numbers in alphabetical order."""
        return list(self._numbers)

    @property
    def names(self):
        """The list of the names of the numbers."""
        return [" ".join(spelled(self._table, number)) for number in self._numbers]

    def add(self, *numbers):
        """Add numbers; those that are there already change nothing."""
        for number in numbers:
            check_number(self._table, number)
        different = {number: True for number in [*self._numbers, *numbers]}
        self._past.append(self._numbers)
        self._numbers = sorted(list(different), key=lambda number: spelled(self._table, number))

    def remove(self, number):
        """Remove a number and return its place."""
        if number not in self._numbers:
            raise InvalidNumber(number)
        spot = self._numbers.index(number)
        self._past.append(self._numbers)
        self._numbers = self._numbers[:spot] + self._numbers[spot + 1:]
        return spot

    def undo(self):
        """Take back the last call of add or remove that has not been taken back."""
        if len(self._past) == 0:
            raise NothingToUndo(0)
        self._numbers = self._past.pop()

    def with_letters(self):
        """Yield tuples (number of letters, list of the numbers with so many), ascending."""
        found = {}
        for number in self._numbers:
            found.setdefault(letters(self._table, number), []).append(number)
        for many in sorted(found):
            yield (many, found[many])

    def __eq__(self, other):
        if not isinstance(other, NameList):
            return False
        return self._table == other._table and self._numbers == other._numbers
