"""The letters of names: how many there are, which numbers have so many, and where counting again and again leads."""

from wordorder.names import check_number, groups_of, spelled
from wordorder.places import checked_below
from wordorder.tables import LONGEST_WORD, check_table

# A group has at most so many words, its scale word counted.
WORDS_IN_GROUP = 5


def letters(table, number):
    """Return the number of letters in the name of a number."""
    check_number(table, number)
    return _letters_of(table, number)


def count_with_letters(table, many, below=None):
    """Return how many numbers from 0 to below less 1 have so many letters."""
    bound = checked_below(table, below)
    if many < 1:
        return 0
    found = 1 if many == _letters_of(table, 0) else 0
    groups = groups_of(bound - 1)
    sizes = _sizes(table)[:len(groups)]
    # From here on 0 has no letters, as a group 000 has none, so that it is not found a second time.
    width = bound.bit_length()
    packed = _packed_counts(sizes, width)
    left = many
    for at in reversed(range(len(groups))):
        for size, times in _counts(sizes[at][:groups[at]]).items():
            found = found + times * _unpacked(packed[at], width, left - size)
        left = left - sizes[at][groups[at]]
    return found + 1 if left == 0 else found


def total_letters(table, below=None):
    """Return the number of letters of all numbers from 0 to below less 1."""
    bound = checked_below(table, below)
    total = _letters_of(table, 0)
    worth = 1
    for sizes in _sizes(table):
        above, rest = divmod(bound, worth * 1000)
        group, lower = divmod(rest, worth)
        total = total + (above * sum(sizes) + sum(sizes[:group])) * worth + lower * sizes[group]
        worth = worth * 1000
    return total


def least_with_letters(table, many):
    """Return the least number with so many letters, None if there is none."""
    check_table(table)
    if many == _letters_of(table, 0):
        return 0
    return _first_with_letters(table, many, list(range(1000)))


def greatest_with_letters(table, many):
    """Return the greatest number with so many letters, None if there is none."""
    check_table(table)
    found = _first_with_letters(table, many, list(reversed(range(1000))))
    if found is None and many == _letters_of(table, 0):
        return 0
    return found


def ring(table, number):
    """Return the ring into which counting the letters of a number again and again leads, its least number first."""
    check_number(table, number)
    seen = {}
    at = number
    while at not in seen:
        seen[at] = True
        at = _letters_of(table, at)
    return _ring_from(table, min(_ring_from(table, at)))


def rings(table):
    """Return the list of all rings, ascending by their first numbers, which are their least ones."""
    check_table(table)
    # No name has more letters, so the numbers of all rings are among these.
    most = (len(table[3]) + 1) * WORDS_IN_GROUP * LONGEST_WORD
    counted = [_letters_of(table, number) for number in range(most + 1)]
    members = list(range(most + 1))
    images = sorted({counted[number] for number in members})
    # Numbers to which no member leads drop out, until only those in rings are left.
    while len(images) < len(members):
        members = images
        images = sorted({counted[number] for number in members})
    return _split_into_rings(table, members)


def _letters_of(table, number):
    """Return the number of letters in the name of a number, without any check."""
    return sum([len(word) for word in spelled(table, number)])


def _ring_from(table, number):
    """Return the ring of a number that is in a ring, beginning with this number."""
    found = [number]
    at = _letters_of(table, number)
    while at != number:
        found.append(at)
        at = _letters_of(table, at)
    return found


def _split_into_rings(table, members):
    """Return the list of the rings whose numbers are the members, which are ascending."""
    found = []
    seen = {}
    for number in members:
        if number not in seen:
            circle = _ring_from(table, number)
            found.append(circle)
            for member in circle:
                seen[member] = True
    return found


def _sizes(table):
    """Return for each group of a number, the lowest one first, the list of the letters that 000 to 999 have there."""
    lowest = _lowest_sizes(table)
    sizes = [lowest]
    for scale in table[3]:
        sizes.append([0] + [size + len(scale) for size in lowest[1:]])
    return sizes


def _lowest_sizes(table):
    """Return the list of the letters of the groups 000 to 999, without a scale word."""
    ones, tens, hundred, _ = table
    # This is asked for often, so it is put together from few words instead of from a thousand names.
    below_hundred = [0] + [len(word) for word in ones[1:]]
    digits = below_hundred[:10]
    for word in tens:
        below_hundred.extend([len(word) + digit for digit in digits])
    sizes = list(below_hundred)
    for digit in digits[1:]:
        sizes.extend([digit + len(hundred) + size for size in below_hundred])
    return sizes


def _counts(numbers):
    """Return a dict from each number of a list to how often it is there."""
    counts = {}
    for number in numbers:
        counts[number] = counts.get(number, 0) + 1
    return counts


def _packed_counts(sizes, width):
    """Return a list that tells, at k, how many values the k lowest groups have with so many letters, for all k.

    The counts for one k are packed into one integer, that for n letters into the bits from n * width on: so a single
    product of two integers makes all sums of products of counts. No count may need more than width bits.
    """
    packed = [1]
    for group_sizes in sizes[:-1]:
        group = sum([times << (size * width) for size, times in _counts(group_sizes).items()])
        packed.append(packed[-1] * group)
    return packed


def _unpacked(packed, width, many):
    """Return the count for so many letters out of an integer into which counts are packed."""
    if many < 0 or many * width >= packed.bit_length():
        return 0
    return (packed >> (many * width)) & ((1 << width) - 1)


def _first_with_letters(table, many, order):
    """Return, of the numbers with so many letters, the one whose groups come first in an order; None if there is none.

    The highest group counts most. The order is a list of 0 to 999.
    """
    sizes = _sizes(table)
    reached = _reached(sizes)
    if many < 1 or not _has_bit(reached[-1], many):
        return None
    number = 0
    left = many
    for at in reversed(range(len(sizes))):
        group = _first_group(order, sizes[at], reached[at], left)
        number = number * 1000 + group
        left = left - sizes[at][group]
    return number


def _first_group(order, sizes, bits, left):
    """Return the first group in an order that leaves to the lower groups letters which they can have; there is one."""
    for group in order:
        if _has_bit(bits, left - sizes[group]):
            break
    return group


def _reached(sizes):
    """Return a list of integers: at k, bit n tells whether the k lowest groups can have n letters in all."""
    reached = [1]
    for group_sizes in sizes:
        bits = 0
        for size in sorted(set(group_sizes)):
            bits = bits | (reached[-1] << size)
        reached.append(bits)
    return reached


def _has_bit(bits, at):
    """Tell whether a bit of an integer is 1; there are none below 0."""
    return 0 <= at < bits.bit_length() and (bits >> at) & 1 == 1
