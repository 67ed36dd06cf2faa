"""Ranges of numbers in alphabetical order: places, neighbours and walks."""

from wordorder.beginnings import (
    count_within, ends_within, number_within, own_number, place_within, start, steps, vocabulary,
)
from wordorder.errors import InvalidNumber, InvalidRange
from wordorder.names import check_number
from wordorder.tables import limit


def check_range(table, low, high):
    """Make the Table check, then the Range check."""
    top = limit(table)
    if low < 0 or low > high or high >= top:
        raise InvalidRange((low, high))


def count_before(table, number, low, high):
    """Return how many numbers of a range come before a number, which may be outside of the range."""
    check_number(table, number)
    check_range(table, low, high)
    return place_within(table, number, low, high)


def nth_in_range(table, spot, low, high):
    """Return the number of a range at a place, from 0 on."""
    check_range(table, low, high)
    if spot < 0 or spot > high - low:
        raise InvalidNumber(spot)
    return number_within(table, spot, low, high)


def before(table, number, low, high):
    """Return the last number of a range that comes before a number, None if there is none."""
    spot = count_before(table, number, low, high) - 1
    return None if spot < 0 else number_within(table, spot, low, high)


def after(table, number, low, high):
    """Return the first number of a range that comes after a number, None if there is none."""
    spot = count_before(table, number, low, high)
    if low <= number <= high:
        spot = spot + 1
    return None if spot > high - low else number_within(table, spot, low, high)


def in_order(table, low, high):
    """Yield all numbers of a range in alphabetical order."""
    check_range(table, low, high)
    # All words are taken at once, so that a table that the caller changes does not change a walk under way.
    words = vocabulary(table)
    waiting = [start(table)]
    while waiting:
        beginning = waiting.pop()
        if ends_within(beginning, low, high):
            yield own_number(beginning)
        waiting.extend(_leading_into(beginning, words, low, high))


def _leading_into(beginning, words, low, high):
    """Return the beginnings with one more word that lead into a range, the last one in alphabetical order first."""
    longer = [then for _, then in steps(beginning, words) if count_within(then, low, high) > 0]
    return longer[::-1]
