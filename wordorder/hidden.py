"""Hidden tables, and how comparisons tell the order of their words."""

from wordorder.names import check_number, spelled
from wordorder.tables import check_table, copied


class HiddenTable:
    """A table that only tells which one of two numbers comes first."""

    def __init__(self, table):
        check_table(table)
        self._table = copied(table)
        self._questions = 0

    @property
    def scales(self):
        """The number of scale words."""
        return len(self._table[3])

    @property
    def questions(self):
        """How many times comes_before has returned."""
        return self._questions

    def comes_before(self, first, second):
        """Tell whether the first number comes before the second one in alphabetical order."""
        check_number(self._table, first)
        check_number(self._table, second)
        answer = spelled(self._table, first) < spelled(self._table, second)
        self._questions = self._questions + 1
        return answer


def find(hidden):
    """Return the tuple (order, hundreds) of a hidden table.

    The order is the list of the numbers with words of their own, but for hundred, in the order of these words; hundreds
    tells how many scale words come before the word hundred.
    """
    order = []
    for number in list(range(1, 20)) + list(range(20, 100, 10)) + _scale_numbers(hidden.scales):
        # Behind hundred, words of all kinds may stand in the same place.
        spot = _spot(hidden, _behind_hundred(number), [_behind_hundred(other) for other in order])
        order.insert(spot, number)
    # The words of the scales and hundred may stand in the same place behind a digit.
    hundreds = _spot(hidden, 100, [number for number in order if number >= 1000])
    # No scale word stands in the place of the word of 0.
    plain = [number for number in order if number < 100]
    spot = _spot(hidden, 0, plain)
    order.insert(order.index(plain[spot]) if spot < len(plain) else len(order), 0)
    return (order, hundreds)


def _scale_numbers(scales):
    """Return the list of the numbers for which so many scale words stand."""
    numbers = []
    worth = 1
    for _ in range(scales):
        worth = worth * 1000
        numbers.append(worth)
    return numbers


def _behind_hundred(number):
    """Return the number whose name is that of 100 and the word of a number behind it."""
    return 100 + number if number < 100 else 100 * number


def _spot(hidden, number, numbers):
    """Return how many of the numbers, which are in alphabetical order, come before a number that is not among them."""
    low = 0
    high = len(numbers)
    while low < high:
        middle = (low + high) // 2
        if hidden.comes_before(numbers[middle], number):
            low = middle + 1
        else:
            high = middle
    return low
