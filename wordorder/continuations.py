"""How names go on: the words that may come next, and how many names begin with some words or letters."""

from wordorder.beginnings import count_within, followed, start, steps, vocabulary
from wordorder.errors import InvalidWords
from wordorder.names import worths
from wordorder.tables import check_table, top_of


def following(table, words):
    """Return a tuple: the words that may come next in a name, ascending, and whether the words are a whole name."""
    beginning = _read(table, words)
    nexts = [word for word, _ in steps(beginning, vocabulary(table))]
    # Wherever the words of a name are cut off, those that remain are a name too, if there are any.
    return (nexts, len(words) > 0)


def count_names(table, words):
    """Return the number of names that begin with a list of words."""
    beginning = _read(table, words)
    return count_within(beginning, 0, top_of(table) - 1)


def count_prefix(table, text):
    """Return the number of names that begin with a text, whose last word may be cut off."""
    check_table(table)
    *words, last = text.split(" ")
    meanings = worths(table)
    beginning = start(table)
    for word in words:
        beginning = _followed_by(beginning, word, meanings)
        if beginning is None:
            return 0
    longer = [then for word, then in steps(beginning, vocabulary(table)) if word.startswith(last)]
    highest = top_of(table) - 1
    return sum([count_within(then, 0, highest) for then in longer])


def _read(table, words):
    """Make the Table check and return the beginning that a list of words is, or raise InvalidWords."""
    check_table(table)
    beginning = start(table)
    meanings = worths(table)
    for index, word in enumerate(words):
        beginning = _followed_by(beginning, word, meanings)
        if beginning is None:
            raise InvalidWords(index)
    return beginning


def _followed_by(beginning, word, meanings):
    """Return the beginning with one more word, or None if no name goes on so; meanings are the worths of the words."""
    return followed(beginning, meanings[word]) if word in meanings else None
