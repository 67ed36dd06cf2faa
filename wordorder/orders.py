"""Whether two tables put all numbers in the same alphabetical order."""

from wordorder.beginnings import followed, own_number, start, steps, vocabulary
from wordorder.errors import InvalidTable
from wordorder.tables import check_table


def same_order(first, second):
    """Tell whether two tables put all numbers in the same alphabetical order."""
    return parting_numbers(first, second) is None


def parting_numbers(first, second):
    """Return a tuple of two numbers that stand in this order by the first table, and in the other one by the second.

    None is returned if there are no such numbers.
    """
    check_table(first)
    check_table(second)
    if len(first[3]) != len(second[3]):
        raise InvalidTable(None)
    for beginning in _beginnings(first):
        numbers = _one_word_longer(first, beginning)
        places = {number: at for at, number in enumerate(_one_word_longer(second, beginning))}
        for at in range(1, len(numbers)):
            if places[numbers[at - 1]] > places[numbers[at]]:
                return (numbers[at - 1], numbers[at])
    return None


def _beginnings(table):
    """Return beginnings such that any two words that may follow the same words in names may follow one of these.

    Two names part either at once, or behind a digit, where hundred and all scale words may follow, or else behind
    words of which those that may follow may also follow "one hundred".
    """
    digit = followed(start(table), 1)
    return [start(table), digit, followed(digit, 100)]


def _one_word_longer(table, beginning):
    """Return the list of the numbers whose names are a beginning and one word more, in alphabetical order."""
    return [own_number(longer) for _, longer in steps(beginning, vocabulary(table))]
