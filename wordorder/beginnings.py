"""Beginnings of names: the words that may come next, and the numbers to whose names they lead.

A beginning is a tuple (total, group, room, top). The total is the worth of the groups that have their scale words,
the group is that of the words behind them. Words below hundred may still bring the group to any value from the group
to the group + room - 1. Scale words to come are worth less than top, so all numbers are less than total + top.

Nothing in this file makes a check: tables, numbers and ranges have been checked before.
"""

from wordorder.names import spelled, worths
from wordorder.tables import top_of

# Nothing follows the word of 0: there is no room, and no scale word is worth less than 1.
ZERO = (0, 0, 1, 1)


def start(table):
    """Return the beginning without any word."""
    return (0, 0, 100, top_of(table))


def vocabulary(table):
    """Return the list of tuples (word, worth) of all words of a table, ascending by the words."""
    meanings = worths(table)
    return sorted(meanings.items())


def followed(beginning, worth):
    """Return the beginning with the word of a worth behind it, or None if no name goes on with this word."""
    total, group, room, top = beginning
    if worth == 0:
        return None if _has_words(beginning) else ZERO
    if worth > 100:
        return (total + group * worth, 0, 100, worth) if group > 0 and worth < top else None
    if worth == 100:
        return (total, group * 100, 100, top) if 0 < group < 10 else None
    if worth >= 10:
        return (total, group + worth, 10 if worth >= 20 else 1, top) if room == 100 else None
    return (total, group + worth, 1, top) if room >= 10 else None


def steps(beginning, words):
    """Return the list of tuples (word, longer beginning), ascending, where words is the vocabulary of the table."""
    found = []
    for word, worth in words:
        longer = followed(beginning, worth)
        if longer is not None:
            found.append((word, longer))
    return found


def state_of(beginning):
    """Return the state of a beginning, a tuple: beginnings of the same state go on in the same ways.

    Each further word leads to a lesser state, so the state of the beginning without any word is the greatest one.
    """
    _, group, room, top = beginning
    if room == 100:
        return (top, 4 if group == 0 else 2)
    if room == 10:
        return (top, 1)
    return (top, 3 if 0 < group < 10 else 0)


def next_states(table):
    """Return a dict from each state, the greatest one first, to a dict from each next word to the state behind it."""
    words = vocabulary(table)
    found = {}
    waiting = [start(table)]
    while waiting:
        beginning = waiting.pop()
        state = state_of(beginning)
        if state not in found:
            longer = steps(beginning, words)
            found[state] = {word: state_of(then) for word, then in longer}
            waiting.extend([then for _, then in longer])
    return {state: found[state] for state in sorted(found, reverse=True)}


def own_number(beginning):
    """Return the number whose whole name a beginning with at least one word is."""
    total, group, _, _ = beginning
    return total + group


def ends_within(beginning, low, high):
    """Tell whether a beginning is the whole name of a number from low to high."""
    return _has_words(beginning) and low <= own_number(beginning) <= high


def count_within(beginning, low, high):
    """Return how many numbers from low to high have names that begin so."""
    total, group, room, top = beginning
    if high < total or low >= total + top:
        return 0
    if group == 0:
        return _overlap(total, total + top, low, high)
    many = 0
    worth = 1
    while worth < top:
        # The words so far may stand in the group of any worth below top.
        many = many + _overlap(total + group * worth, total + (group + room) * worth, low, high)
        if group < 10:
            many = many + _overlap(total + group * 100 * worth, total + (group + 1) * 100 * worth, low, high)
        worth = worth * 1000
    return many


def place_within(table, number, low, high):
    """Return how many numbers from low to high come before a number in alphabetical order."""
    words = vocabulary(table)
    beginning = start(table)
    place = 0
    for word in spelled(table, number):
        if ends_within(beginning, low, high):
            place = place + 1
        for other, longer in steps(beginning, words):
            if other == word:
                beginning = longer
                break
            place = place + count_within(longer, low, high)
    return place


def number_within(table, place, low, high):
    """Return the number at a place, which must exist, among the numbers from low to high."""
    words = vocabulary(table)
    beginning = start(table)
    left = place
    while True:
        if ends_within(beginning, low, high):
            if left == 0:
                return own_number(beginning)
            left = left - 1
        for _, longer in steps(beginning, words):
            many = count_within(longer, low, high)
            if left < many:
                beginning = longer
                break
            left = left - many


def _has_words(beginning):
    """Tell whether there is a word at all; then the beginning is also a whole name."""
    total, group, room, _ = beginning
    return total + group > 0 or room == 1


def _overlap(first, end, low, high):
    """Return how many numbers from first to end - 1 lie from low to high."""
    return max(0, min(end - 1, high) - max(first, low) + 1)
