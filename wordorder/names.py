"""The names of numbers, written and read."""

from wordorder.errors import InvalidNumber, Unreadable
from wordorder.tables import limit


def check_number(table, number):
    """Make the Table check, then the Number check."""
    # The limit is taken first, as a wrong table counts before a wrong number.
    top = limit(table)
    if number < 0 or number >= top:
        raise InvalidNumber(number)


def name(table, number):
    """Return the name of a number."""
    check_number(table, number)
    return " ".join(spelled(table, number))


def number_of(table, text):
    """Return the number that has a text as its name."""
    top = limit(table)
    number = _guess(table, text)
    if number >= top or " ".join(spelled(table, number)) != text:
        raise Unreadable(text)
    return number


def words_of(table, number):
    """Yield the words of the name of a number."""
    check_number(table, number)
    # All words are taken at once, so that a table that the caller changes does not change a walk under way.
    yield from spelled(table, number)


def spelled(table, number):
    """Return the list of the words of the name of a number, without any check."""
    ones, _, _, scales = table
    if number == 0:
        return [ones[0]]
    groups = groups_of(number)
    words = []
    for at in reversed(range(len(groups))):
        if groups[at] > 0:
            words.extend(_group_words(table, groups[at]))
            if at > 0:
                words.append(scales[at - 1])
    return words


def groups_of(number):
    """Return the groups of three digits of a number, the lowest one first."""
    groups = []
    rest = number
    while rest > 0:
        rest, group = divmod(rest, 1000)
        groups.append(group)
    return groups


def _group_words(table, group):
    """Return the words of a group from 1 to 999, without a scale word."""
    ones, tens, hundred, _ = table
    words = []
    hundreds, ending = divmod(group, 100)
    if hundreds > 0:
        words.append(ones[hundreds])
        words.append(hundred)
    if ending >= 20:
        words.append(tens[ending // 10 - 2])
        ending = ending % 10
    if ending > 0:
        words.append(ones[ending])
    return words


def _guess(table, text):
    """Return the number of a name; for words that are no name, some number whose name is another text."""
    meanings = worths(table)
    total = 0
    group = 0
    for word in text.split(" "):
        if word not in meanings:
            raise Unreadable(text)
        worth = meanings[word]
        if worth == 100:
            # In a name one digit stands here; taking no more of it keeps the guess small for words that repeat.
            group = group % 10 * 100
        elif worth > 100:
            total = total + group * worth
            group = 0
        else:
            group = group + worth
    return total + group


def worths(table):
    """Return a dict from each word of a table to the number for which it stands."""
    ones, tens, hundred, scales = table
    found = {hundred: 100}
    for digit, word in enumerate(ones):
        found[word] = digit
    for at, word in enumerate(tens):
        found[word] = 10 * (at + 2)
    worth = 1
    for word in scales:
        worth = worth * 1000
        found[word] = worth
    return found
