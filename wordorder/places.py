"""Places of numbers in alphabetical order, among the numbers below a bound."""

from wordorder.beginnings import number_within, place_within
from wordorder.errors import InvalidNumber, InvalidRange
from wordorder.tables import limit


def checked_below(table, below):
    """Make the Table check, then the Below check, and return the bound: below, or the limit for None."""
    top = limit(table)
    if below is None:
        return top
    if below < 1 or below > top:
        raise InvalidRange(below)
    return below


def place(table, number, below=None):
    """Return the place of a number among the numbers from 0 to below less 1."""
    bound = checked_below(table, below)
    if number < 0 or number >= bound:
        raise InvalidNumber(number)
    return place_within(table, number, 0, bound - 1)


def number_at(table, spot, below=None):
    """Return the number at a place among the numbers from 0 to below less 1."""
    bound = checked_below(table, below)
    if spot < 0 or spot >= bound:
        raise InvalidNumber(spot)
    return number_within(table, spot, 0, bound - 1)
