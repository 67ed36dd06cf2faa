"""Rearrangements: the numbers whose names have the same words, each as often, in any order.

The scale words of a name tell which of its groups are not 000; only the lowest group, which has no scale word, may be
empty or not. So the other words are shared out over these groups. A stock is a dict that tells how often each of these
words is there, by its worth. The kinds of a stock are a tuple: how many words are hundred, digits, teens (10 to 19) and
tens.
"""

from math import comb, factorial

from wordorder.names import check_number, groups_of


def count_rearrangements(table, number):
    """Return the number of the rearrangements of a number."""
    check_number(table, number)
    stock = _stock(number)
    many = len(_places(number))
    hundreds, digits, teens, tens = _kinds(stock)
    # The lowest group is full in some layouts and empty in the others.
    layouts = sum([_layouts(filled, hundreds, digits, teens, tens) for filled in (many, many - 1)])
    orders = factorial(digits) * factorial(teens) * factorial(tens)
    for worth, times in stock.items():
        if worth != 100:
            orders = orders // factorial(times)
    return layouts * orders


def least_rearrangement(table, number):
    """Return the least rearrangement of a number."""
    check_number(table, number)
    return _outermost(number, 0)


def greatest_rearrangement(table, number):
    """Return the greatest rearrangement of a number."""
    check_number(table, number)
    return _outermost(number, -1)


def rearrangements(table, number):
    """Yield all rearrangements of a number, ascending."""
    check_number(table, number)
    places = _places(number)
    # What waits: the number so far, how many places it fills, the stock before its last group, and this group.
    waiting = [(0, 0, _stock(number), 0)]
    while waiting:
        so_far, filled, stock, last = waiting.pop()
        left = _without(stock, last)
        if filled == len(places):
            yield so_far
        else:
            groups = _groups_from(left, len(places) - filled - 1)
            waiting.extend([(so_far + group * places[filled], filled + 1, left, group) for group in groups[::-1]])


def _outermost(number, side):
    """Return the least rearrangement for side 0, the greatest one for side -1."""
    places = _places(number)
    left = _stock(number)
    found = 0
    for at, worth in enumerate(places):
        group = _groups_from(left, len(places) - at - 1)[side]
        left = _without(left, group)
        found = found + group * worth
    return found


def _places(number):
    """Return the list of the worths of the groups that may have words, the highest one first."""
    places = [1]
    worth = 1000
    for group in groups_of(number)[1:]:
        if group > 0:
            places.append(worth)
        worth = worth * 1000
    return places[::-1]


def _stock(number):
    """Return the stock of the words of a number."""
    stock = {}
    for group in groups_of(number):
        for part in _parts(group):
            stock[part] = stock.get(part, 0) + 1
    return stock


def _parts(group):
    """Return the list of the worths of the words of a group, without a scale word."""
    hundreds, ending = divmod(group, 100)
    parts = [hundreds, 100] if hundreds > 0 else []
    if ending < 20:
        parts.append(ending)
    else:
        parts.extend([ending - ending % 10, ending % 10])
    return [part for part in parts if part > 0]


def _kinds(stock):
    """Return the kinds of a stock."""
    digits = sum([times for worth, times in stock.items() if worth < 10])
    teens = sum([times for worth, times in stock.items() if 10 <= worth < 20])
    tens = sum([times for worth, times in stock.items() if 20 <= worth < 100])
    return (stock.get(100, 0), digits, teens, tens)


def _without(stock, group):
    """Return a stock without the words of a group, which it has."""
    left = dict(stock)
    for part in _parts(group):
        left[part] = left[part] - 1
        if left[part] == 0:
            del left[part]
    return left


def _groups_from(stock, below):
    """Return the ascending list of the groups that can be made of a stock so that the places below use up the rest.

    There are so many places below, the lowest one of all included.
    """
    digits = [worth for worth in range(1, 10) if worth in stock]
    tens = [worth for worth in range(20, 100, 10) if worth in stock]
    endings = [0] + [worth for worth in stock if worth < 100] + [ten + digit for ten in tens for digit in digits]
    heads = [0] + digits if 100 in stock else [0]
    groups = sorted([head * 100 + ending for head in heads for ending in endings])
    kinds = _kinds(stock)
    return [group for group in groups if _has_twice(stock, group) and _leaves_enough(kinds, group, below)]


def _has_twice(stock, group):
    """Tell whether a digit that stands twice in a group does so in a stock."""
    hundreds, ending = divmod(group, 100)
    twice = hundreds > 0 and (ending == hundreds or (ending >= 20 and ending % 10 == hundreds))
    return not twice or stock[hundreds] >= 2


def _leaves_enough(kinds, group, below):
    """Tell whether the places below a group can use up what it leaves of a stock of some kinds."""
    parts = _parts(group)
    hundreds, digits, teens, tens = kinds
    hundreds = hundreds - len([part for part in parts if part == 100])
    digits = digits - len([part for part in parts if part < 10])
    teens = teens - len([part for part in parts if 10 <= part < 20])
    tens = tens - len([part for part in parts if 20 <= part < 100])
    if below == 0:
        return hundreds == 0 and digits == 0 and teens == 0 and tens == 0
    if group == 0:
        return False
    return any([_has_layout(many, hundreds, digits, teens, tens) for many in (below, below - 1)])


def _layouts(many, hundreds, digits, teens, tens):
    """Return in how many ways words of these kinds can be shared out over so many groups that none of them is empty.

    Words of one kind count as equal.
    """
    # What ends a group: a word of the teens, or one of the tens with or without a digit, or a digit alone.
    endings = digits - hundreds
    free = many - teens - tens
    total = 0
    for alone in range(free + 1):
        # The groups that have no ending consist of hundreds.
        bare = free - alone
        total = total + _chosen(free, alone) * _chosen(tens, endings - alone) * _chosen(many - bare, hundreds - bare)
    return _chosen(many, teens) * _chosen(many - teens, tens) * total


def _has_layout(many, hundreds, digits, teens, tens):
    """Tell whether there is any way to share words out, as _layouts counts them."""
    endings = digits - hundreds
    free = many - teens - tens
    return free >= 0 and 0 <= endings <= free + tens and free - min(endings, free) <= hundreds <= many


def _chosen(many, some):
    """Return in how many ways some of so many things can be chosen."""
    return comb(many, some) if 0 <= some <= many else 0
