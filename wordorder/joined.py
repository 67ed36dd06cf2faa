"""Names written without spaces: their readings, and texts that have two of them."""

from heapq import heappop, heappush

from wordorder.beginnings import followed, next_states, own_number, start, state_of, vocabulary
from wordorder.names import check_number, spelled
from wordorder.tables import check_table


def joined_name(table, number):
    """Return the name of a number without its spaces."""
    check_number(table, number)
    return "".join(spelled(table, number))


def readings(table, text):
    """Return the ascending list of the numbers whose names without spaces are a text."""
    check_table(table)
    words = vocabulary(table)
    here = [[row for row in words if text.startswith(row[0], at)] for at in range(len(text))]
    hopes = _hopes(table, here)
    beginning = start(table)
    waiting = [(0, beginning)] if state_of(beginning) in hopes[0] else []
    found = []
    while waiting:
        at, beginning = waiting.pop()
        if at == len(text):
            found.append(own_number(beginning))
        else:
            waiting.extend(_read_on(here[at], hopes, at, beginning))
    return sorted(found)


def double_text(table):
    """Return the first one in string order of the shortest texts that have two readings, None if there is none."""
    check_table(table)
    nexts = next_states(table)
    first = state_of(start(table))
    # Two names are read at once. What waits: the length of the text so far, the text, whether the names have parted,
    # the end of the text that only one of them has reached, the state of this one, and the state of the other one.
    waiting = [(0, "", False, "", first, first)]
    seen = {}
    while waiting:
        _, text, parted, rest, ahead, behind = heappop(waiting)
        if parted and rest == "":
            return text
        # The first way to this point has the text that stays the first one, whatever the names go on with.
        if (parted, rest, ahead, behind) not in seen:
            seen[(parted, rest, ahead, behind)] = True
            longer = _catch_up(nexts, text, rest, ahead, behind) if parted else _part(nexts, text, ahead)
            for item in longer:
                heappush(waiting, item)
    return None


def _hopes(table, here):
    """Return a list: for each place of a text, a dict with the states from which a name can read all that is behind.

    Here is the list of the words with which the text goes on at each place, with their worths.
    """
    nexts = next_states(table)
    first = state_of(start(table))
    hopes = [{} for _ in here] + [{state: True for state in nexts if state != first}]
    for at in reversed(range(len(here))):
        for word, _ in here[at]:
            behind = hopes[at + len(word)]
            for state in nexts:
                if nexts[state].get(word) in behind:
                    hopes[at][state] = True
    return hopes


def _read_on(words, hopes, at, beginning):
    """Return the list of tuples (place, beginning) one word behind a place of a text, where there is hope."""
    found = []
    for word, worth in words:
        longer = followed(beginning, worth)
        if longer is not None and state_of(longer) in hopes[at + len(word)]:
            found.append((at + len(word), longer))
    return found


def _part(nexts, text, state):
    """Return what waits one word behind two names that have been the same so far."""
    found = []
    for word, ahead in nexts[state].items():
        longer = text + word
        found.append((len(longer), longer, False, "", ahead, ahead))
        for other, behind in nexts[state].items():
            if word != other and word.startswith(other):
                found.append((len(longer), longer, True, word[len(other):], ahead, behind))
    return found


def _catch_up(nexts, text, rest, ahead, behind):
    """Return what waits when the name that is behind has one word more."""
    found = []
    for word, then in nexts[behind].items():
        if rest.startswith(word):
            found.append((len(text), text, True, rest[len(word):], ahead, then))
        elif word.startswith(rest):
            longer = text + word[len(rest):]
            found.append((len(longer), longer, True, word[len(rest):], then, ahead))
    return found
