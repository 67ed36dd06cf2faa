"""Tables: the words of which the names of numbers are made."""

from wordorder.errors import InvalidNumber, InvalidTable

ENGLISH_ONES = (
    "zero", "one", "two", "three", "four", "five", "six", "seven", "eight", "nine",
    "ten", "eleven", "twelve", "thirteen", "fourteen", "fifteen", "sixteen", "seventeen", "eighteen", "nineteen",
)
ENGLISH_TENS = ("twenty", "thirty", "forty", "fifty", "sixty", "seventy", "eighty", "ninety")
ENGLISH_HUNDRED = "hundred"
ENGLISH_SCALES = (
    "thousand", "million", "billion", "trillion", "quadrillion",
    "quintillion", "sextillion", "septillion", "octillion", "nonillion",
)
LONGEST_WORD = 20


def english(scales):
    """Return a new table of the usual English words with so many scale words."""
    if scales < 0 or scales > len(ENGLISH_SCALES):
        raise InvalidNumber(scales)
    return (list(ENGLISH_ONES), list(ENGLISH_TENS), ENGLISH_HUNDRED, list(ENGLISH_SCALES[:scales]))


def is_word(text):
    """Tell whether a string is a word, whether or not a table has it."""
    # Without the test for ASCII, letters beyond a to z would be let through.
    return len(text) <= LONGEST_WORD and text.isascii() and text.isalpha() and text.islower()


def check_table(table):
    """Make the Table check: raise InvalidTable if the table is not valid."""
    ones, tens, hundred, scales = table
    if len(ones) != len(ENGLISH_ONES) or len(tens) != len(ENGLISH_TENS):
        raise InvalidTable(None)
    seen = {}
    for word in [*ones, *tens, hundred, *scales]:
        if word in seen or not is_word(word):
            raise InvalidTable(word)
        seen[word] = True


def limit(table):
    """Return the limit of a table: the least number for which it has no name."""
    check_table(table)
    return top_of(table)


def top_of(table):
    """Return the limit of a table, without any check."""
    top = 1000
    for _ in table[3]:
        top = top * 1000
    return top


def copied(table):
    """Return a copy of a table that shares no list with it."""
    ones, tens, hundred, scales = table
    return (list(ones), list(tens), hundred, list(scales))
