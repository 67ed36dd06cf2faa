"""Names with lost words: which numbers fit a pattern.

The names are followed by their states (see wordorder/beginnings.py), the pattern by its places: place k is the one
before the item k, and the last place stands behind all items. Some places are kept together in one integer: bit k tells
whether place k is among them.
"""

from wordorder.beginnings import next_states, own_number, start, state_of, steps, vocabulary
from wordorder.names import check_number, spelled
from wordorder.tables import check_table


class Reader:
    """A pattern that is read along with the words of a name."""

    def __init__(self, pattern):
        self.parts = _tidied(pattern)
        self.end = 1 << len(self.parts)
        self.gaps = _places_of("", self.parts)
        self.blanks = _places_of(None, self.parts)
        # Without a gap there is no last one, and this is 0.
        self.last_gap = (1 << self.gaps.bit_length()) >> 1
        # The places of the items that stand for exactly one word, by the word.
        self.takers = {}
        for at, part in enumerate(self.parts):
            if part is not None and part != "":
                self.takers[part] = self.takers.get(part, self.blanks) | (1 << at)
        # The places before the first word, and those where a name may end.
        self.first = self._across(1)
        self.last = self.end | (self.gaps & (self.end >> 1))

    def takers_of(self, word):
        """Return the places of the items that take a word and no other word with it."""
        return self.takers.get(word, self.blanks)

    def read(self, places, takers):
        """Return the places behind a word, from those before it and its takers."""
        return self._across(((places & takers) << 1) | (places & self.gaps))

    def unread(self, places, takers):
        """Return the places before a word from which reading it leads to one of those behind it."""
        before = (takers & (places >> 1)) | (places & self.gaps)
        return before | (self.gaps & (before >> 1))

    def needed(self, places):
        """Return places without those that can lead to nothing to which the others do not lead."""
        gaps = places & self.gaps
        if gaps == 0:
            return places
        # A gap swallows whatever the places before it would still read on the way to it.
        behind = gaps.bit_length() - 1
        return (places >> behind) << behind

    def read_all(self, places, words):
        """Return the places behind all of a list of words, from those before them."""
        for word in words:
            places = self.read(places, self.takers_of(word))
        return places

    def reads(self, words):
        """Tell whether a list of words can be had by putting words in for all lost ones."""
        return self.read_all(self.first, words) & self.end > 0

    def _across(self, places):
        """Return places with those that lie across the gaps behind them; two gaps never stand side by side."""
        return places | ((places & self.gaps) << 1)


class Search:
    """All names of a table that a pattern may fit."""

    def __init__(self, table, pattern):
        self.reader = Reader(pattern)
        self.nexts = next_states(table)
        self.start = state_of(start(table))
        # For each state the places from which the rest of some name reads the rest of the pattern.
        self.hopes = {}
        for state in reversed(list(self.nexts)):
            self.hopes[state] = self.onward(state) | (0 if state == self.start else self.reader.last)

    def onward(self, state):
        """Return the places from which a name that goes on from a state can read the rest of the pattern."""
        places = 0
        for word, then in self.nexts[state].items():
            places = places | self.reader.unread(self.hopes[then], self.reader.takers_of(word))
        return places

    def hopes_below(self, worth):
        """Return two integers: the places from which names go on to the end by the groups below a worth.

        The first one is for names that have words before these groups, the second one for names that have none.
        """
        if worth == 1:
            return (self.reader.end, 0)
        state = state_of((worth, 0, 100, worth))
        return (self.hopes[state], self.onward(state))

    def bundles(self, state):
        """Return a dict: how many words of each takers lead from a state to each other one."""
        found = {}
        for word, then in self.nexts[state].items():
            bundle = (self.reader.takers_of(word), then)
            found[bundle] = found.get(bundle, 0) + 1
        return found


def fits(table, pattern, number):
    """Tell whether a number fits a pattern."""
    check_number(table, number)
    return Reader(pattern).reads(spelled(table, number))


def count_fitting(table, pattern):
    """Return how many numbers fit a pattern."""
    check_table(table)
    search = Search(table, pattern)
    bundles = {state: search.bundles(state) for state in search.nexts}
    endings = _endings(search, bundles)
    # For each state and all places that a beginning in it may have reached: how many such beginnings there are.
    waiting = {state: {} for state in bundles}
    waiting[search.start] = {search.reader.first & search.hopes[search.start]: 1}
    total = 0
    for state in bundles:
        reached = waiting.pop(state)
        for places, times in reached.items():
            if places & search.reader.last_gap > 0:
                total = total + times * endings[state]
            else:
                total = total + (times if places & search.reader.end > 0 else 0)
                _pass_on(search, places, times, bundles[state], waiting)
    return total


def least_fitting(table, pattern):
    """Return the least number that fits a pattern, None if there is none."""
    check_table(table)
    if Reader(pattern).reads(spelled(table, 0)):
        return 0
    return _first_fitting(table, pattern, list(range(1000)))


def greatest_fitting(table, pattern):
    """Return the greatest number that fits a pattern, None if there is none."""
    check_table(table)
    found = _first_fitting(table, pattern, list(reversed(range(1000))))
    if found is None and Reader(pattern).reads(spelled(table, 0)):
        return 0
    return found


def fitting(table, pattern):
    """Yield the numbers that fit a pattern, in alphabetical order."""
    check_table(table)
    search = Search(table, pattern)
    words = vocabulary(table)
    beginning = start(table)
    waiting = [(beginning, search.reader.first & search.hopes[state_of(beginning)])]
    while waiting:
        beginning, places = waiting.pop()
        if places & search.reader.end > 0:
            yield own_number(beginning)
        longer = []
        for word, then in steps(beginning, words):
            behind = search.reader.read(places, search.reader.takers_of(word)) & search.hopes[state_of(then)]
            if behind > 0:
                longer.append((then, behind))
        waiting.extend(longer[::-1])


def _tidied(pattern):
    """Return a pattern with at most one gap between two words, before all blanks that stand there.

    A gap is the empty string, a blank is None. The order of gaps and blanks between two words means nothing.
    """
    parts = []
    blanks = 0
    for item in pattern:
        if item is None:
            blanks = blanks + 1
        elif item != "":
            parts.extend([None] * blanks + [item])
            blanks = 0
        elif parts[-1:] != [""]:
            parts.append("")
    return parts + [None] * blanks


def _places_of(item, parts):
    """Return the places of all items of a tidied pattern that are equal to an item."""
    return sum([1 << at for at, part in enumerate(parts) if part == item])


def _endings(search, bundles):
    """Return a dict: in how many ways names go on from each state so that they end as the pattern does.

    Only what stands behind the last gap of the pattern counts.
    """
    reader = search.reader
    exact = {state: 0 if state == search.start else 1 for state in bundles}
    for at in reversed(range(reader.gaps.bit_length(), len(reader.parts))):
        exact = {state: sum([many * exact[then] for (takers, then), many in bundles[state].items() if takers >> at & 1])
                 for state in bundles}
    endings = {}
    for state in reversed(list(bundles)):
        # Each way has as many words as the end of the pattern, or first a word that is lost in the gap.
        longer = sum([many * endings[then] for (_, then), many in bundles[state].items()])
        endings[state] = exact[state] + longer
    return endings


def _pass_on(search, places, times, bundle, waiting):
    """Add beginnings with one more word to those that wait, where they have reached some places so many times."""
    for (takers, then), many in bundle.items():
        behind = search.reader.needed(search.reader.read(places, takers) & search.hopes[then])
        if behind > 0:
            waiting[then][behind] = waiting[then].get(behind, 0) + times * many


def _first_fitting(table, pattern, order):
    """Return, of the numbers from 1 on that fit, the one whose groups come first in an order; None if there is none.

    The highest group counts most. The order is a list of 0 to 999.
    """
    search = Search(table, pattern)
    words = [[]] + [spelled(table, group) for group in range(1, 1000)]
    places = search.reader.first
    number = 0
    for worth, scale in _levels(table):
        behind, ahead = search.hopes_below(worth)
        spellings = [(group, words[group] + scale if group > 0 else []) for group in order]
        first = _first_group(search.reader, places, spellings, behind, behind if number > 0 else ahead)
        if first is None:
            return None
        group, places = first
        number = number + group * worth
    return number


def _levels(table):
    """Return the list of tuples (worth, list of its scale word) of all groups, the highest one first."""
    levels = [(1, [])]
    for word in table[3]:
        levels.append((levels[-1][0] * 1000, [word]))
    return levels[::-1]


def _first_group(reader, places, spellings, full, empty):
    """Return the tuple (group, places behind it) of the first group that leads to hoped-for places, None if none does.

    Those for a group with words are full, those for the group 000 are empty.
    """
    for group, words in spellings:
        behind = reader.read_all(places, words)
        if behind & (full if group > 0 else empty) > 0:
            return (group, behind)
    return None
