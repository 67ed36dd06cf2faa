"""The texts of tables, read."""

from wordorder.errors import InvalidTable, Unreadable
from wordorder.tables import check_table

# Where the words for the tens begin, and where the word hundred stands; the scale words are behind it.
TENS_AT = 20
HUNDRED_AT = 28


def read_table(text):
    """Return the table that has a text."""
    words = text.split(" ")
    if len(words) <= HUNDRED_AT:
        raise Unreadable(text)
    table = (words[:TENS_AT], words[TENS_AT:HUNDRED_AT], words[HUNDRED_AT], words[HUNDRED_AT + 1:])
    try:
        check_table(table)
    except InvalidTable:
        raise Unreadable(text) from None
    return table
