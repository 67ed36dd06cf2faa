import unittest
from collections import Counter
from copy import deepcopy
from itertools import accumulate

from samples import (
    LETTERS, BelowChecks, Checks, great_tables, mixed_table, nested_table, odd_table, small_tables, valid_tables,
    wide_table,
)
from wordorder.errors import InvalidNumber
from wordorder.letters import (
    count_with_letters, greatest_with_letters, least_with_letters, letters, ring, rings, total_letters,
)
from wordorder.names import name
from wordorder.tables import english, limit

NO_LETTERS = (0, -1, -2, -10 ** 70)
TOO_MANY = (2101, 10 ** 6, 10 ** 70)


def sized_table(sizes, scales=0):
    """A table whose words for 1, 2 and so on have so many letters, and the others 10."""
    parts = [*sizes, *[10] * (29 + scales)]
    words = [(LETTERS[at % 20] + "uvwxyz"[at // 20]).ljust(size, "z") for at, size in enumerate(parts)]
    # The word of 0 has as many letters as any other number.
    words = [LETTERS[19] * 10, *words]
    for at, size in enumerate(sizes):
        if size == 1:
            words[at + 1] = LETTERS[at]
    return (words[:20], words[20:28], words[28], words[29:29 + scales])


def ring_tables():
    """Tables in whose rings there are one number and more, and tables with several rings."""
    return [
        # 4 and 5 lead to each other.
        sized_table([3, 3, 5, 5, 4, 3, 5, 5, 4, 3]),
        # From 3 to 9, to 5 and to 3 again; 2 is a ring of its own.
        sized_table([2, 2, 9, 2, 3, 3, 9, 5, 5, 3]),
        # From 10 to 2, to 7, to 4 and to 10 again, and some rings of one number.
        sized_table([1, 7, 3, 10, 5, 4, 4, 2, 4, 2]),
        # All numbers from 1 to 9 in rings of three.
        sized_table([2, 3, 1, 6, 4, 5, 8, 9, 7]),
        sized_table([9, 8, 7, 6, 5, 4, 3, 2, 1]),
        sized_table([2, 3, 4, 5, 6, 7, 8, 9, 10, 11, 12, 13, 14, 15, 16, 17, 18, 19, 1]),
        sized_table([8, 1, 2, 3, 4, 5, 6, 7, 9, 20, 10, 11], 2),
        mixed_table(20, 11), mixed_table(20, 12), mixed_table(3, 13), mixed_table(0, 14), mixed_table(1, 15),
    ]


def counted(table, number):
    return len(name(table, number).replace(" ", ""))


class Steps:
    """The rings of a table, found by taking more steps than there are numbers of letters."""

    def __init__(self, table):
        self.table = table
        # Names have at most 100 letters a group.
        self.after = [counted(table, number) for number in range(100 * len(table[3]) + 101)]

    def ring(self, number):
        number = counted(self.table, number)
        for _ in range(2200):
            number = self.after[number]
        found = [number]
        while self.after[found[-1]] != number:
            found.append(self.after[found[-1]])
        least = found.index(min(found))
        return found[least:] + found[:least]

    def rings(self):
        found = []
        for number in range(len(self.after)):
            if self.ring(number) not in found:
                found.append(self.ring(number))
        return sorted(found)


class Letters(Checks, unittest.TestCase):
    def test_english(self):
        table = english(3)
        for number, many in ((0, 4), (1, 3), (4, 4), (10, 3), (21, 9), (100, 10), (345, 21), (1000, 11), (1000000, 10),
                             (1000212, 26), (999, 21), (999999, 50), (10 ** 12 - 1, 106)):
            with self.subTest(number=number):
                self.assertEqual(self.call(letters, table, number), many)
                self.assertEqual(self.call(letters, table=table, number=number), many)

    def test_word_of_zero(self):
        for table in [*valid_tables(), *great_tables()]:
            self.assertEqual(letters(table, 0), len(table[0][0]))

    def test_against_the_names(self):
        for table in [*valid_tables(), *small_tables(), *great_tables()]:
            top = limit(table)
            for number in [*range(0, 1000, 7), top // 3, top // 7, top // 11, top // 1000, top - 2, top - 1]:
                self.assertEqual(letters(table, number), len(name(table, number).replace(" ", "")))

    def test_greatest_name(self):
        for table in (english(10), wide_table(20)):
            groups = len(table[3]) + 1
            self.assertEqual(letters(table, limit(table) - 1), 21 * groups + sum(len(word) for word in table[3]))

    def test_short_and_long_words(self):
        table = odd_table()
        self.assertEqual([letters(table, number) for number in (0, 9, 19, 20, 99, 199, 999999999)],
                         [1, 1, 1, 20, 21, 23, 72])

    def test_number_check(self):
        for table in valid_tables():
            for number in (-1, limit(table), limit(table) + 1, -10 ** 70, 10 ** 70):
                self.assert_raises_exactly(InvalidNumber, number, letters, table, number)
                self.assert_raises_exactly(InvalidNumber, number, letters, table=table, number=number)

    def test_table_check_comes_first(self):
        self.assert_table_check(letters, number=0)
        self.assert_table_check(letters, number=-1)


class CountWithLetters(BelowChecks, unittest.TestCase):
    def test_against_counting_one_by_one(self):
        tables = [english(1), english(2), nested_table(1), mixed_table(2, 16), odd_table()]
        for table in tables:
            sizes = [counted(table, number) for number in range(3000)]
            for below in (1, 2, 3, 10, 19, 20, 21, 99, 100, 101, 345, 999, 1000, 1001, 1002, 1999, 2000, 2345, 3000):
                counts = Counter(sizes[:below])
                for many in [*range(-1, 12), *range(12, 120, 5), max(counts), max(counts) + 1]:
                    self.assertEqual(count_with_letters(table, many, below), counts[many])

    def test_every_bound_without_scale_words(self):
        for table in small_tables():
            sizes = [counted(table, number) for number in range(1000)]
            for below in range(1, 1001, 9):
                for many in (sizes[below - 1], sizes[below % 1000], sizes[0]):
                    self.assertEqual(count_with_letters(table, many, below), sizes[:below].count(many))

    def test_against_counting_a_million(self):
        for table in (english(1), mixed_table(1, 17)):
            low = [counted(table, number) for number in range(1000)]
            high = [size + len(table[3][0]) for size in low]
            counts = Counter(low)
            counts.update(one + other for one in high[1:] for other in [0, *low[1:]])
            for many in range(0, 190):
                self.assertEqual(count_with_letters(table, many), counts[many])

    def test_english(self):
        table = english(1)
        for many, below, told in ((3, 100, 4), (3, 1, 0), (4, 1, 1), (3, 2, 1), (4, 5, 2), (4, 10 ** 6, 4), (2, 99, 0)):
            self.assertEqual(self.call(count_with_letters, table, many, below), told)
            self.assertEqual(self.call(count_with_letters, table=table, many=many, below=below), told)
        for many, told in ((2, 0), (3, 4), (4, 4), (56, 81), (57, 0)):
            self.assertEqual(self.call(count_with_letters, table, many), told)
            self.assertEqual(self.call(count_with_letters, table=table, many=many), told)

    def test_counts_add_up_to_the_limit(self):
        for table in [*[wide_table(many) for many in range(5)], nested_table(3), english(5)]:
            most = 100 * len(table[3]) + 100
            self.assertEqual(sum(count_with_letters(table, many) for many in range(most + 1)), limit(table))

    def test_all_numbers_of_scale_words(self):
        for many in range(21):
            table = wide_table(many)
            # No group has more letters than 373, 377, 378, 773 and so on.
            self.assertEqual(count_with_letters(table, 24 + 30 * many), 9 ** (many + 1))
            fewer = [number for number in range(1000) if counted(table, number) == 23]
            self.assertEqual(count_with_letters(table, 23 + 30 * many), (many + 1) * len(fewer) * 9 ** many)
            self.assertEqual(count_with_letters(table, 25 + 30 * many), 0)

    def test_bound_at_the_limit_of_fewer_scale_words(self):
        for wide in (wide_table, nested_table):
            for many in (1, 7, 20):
                table, fewer = wide(many), wide(many - 1)
                for size in (1, 5, 24, 60, 111):
                    told = count_with_letters(table, size, limit(fewer))
                    self.assertEqual(told, count_with_letters(fewer, size))

    def test_one_number_more(self):
        for table in [english(10), *great_tables()]:
            top = limit(table)
            for number in (1, 999, 1000, 10 ** 6 - 1, top // 7, 345 * (top // 1000), top // 3 + 1, top - 1):
                size = counted(table, number)
                for many in (size - 1, size, size + 1):
                    before, behind = (count_with_letters(table, many, below) for below in (number, number + 1))
                    self.assertEqual(behind, before + (1 if many == size else 0))

    def test_numbers_of_letters_that_none_has(self):
        for table in [*valid_tables(), *great_tables()]:
            for many in (*NO_LETTERS, *TOO_MANY):
                for below in (1, 2, 1000, limit(table), None):
                    self.assertEqual(self.call(count_with_letters, table, many, below), 0)

    def test_none_is_the_limit(self):
        self.assert_none_is_the_limit(count_with_letters, "many")

    def test_below_check(self):
        self.assert_below_check(count_with_letters, many=3)
        self.assert_below_check(count_with_letters, many=0)
        self.assert_below_check(count_with_letters, many=-1)

    def test_table_check_comes_first(self):
        self.assert_table_check(count_with_letters, many=3)
        self.assert_table_check(count_with_letters, many=0)
        self.assert_table_check(count_with_letters, many=3, below=0)


class TotalLetters(BelowChecks, unittest.TestCase):
    def test_every_bound_up_to_some_thousand(self):
        for table in (english(1), english(2), nested_table(1), mixed_table(2, 16), odd_table()):
            totals = list(accumulate(counted(table, number) for number in range(2500)))
            for below in [*range(1, 130), *range(130, 2500, 23), 999, 1000, 1001, 1002, 1999, 2000, 2001, 2500]:
                self.assertEqual(total_letters(table, below), totals[below - 1])

    def test_all_numbers_without_scale_words(self):
        for table in small_tables():
            total = sum(counted(table, number) for number in range(1000))
            self.assertEqual(self.call(total_letters, table), total)
            self.assertEqual(self.call(total_letters, table=table), total)
            for below in (None, 1000):
                self.assertEqual(self.call(total_letters, table, below), total)
                self.assertEqual(self.call(total_letters, table=table, below=below), total)

    def test_english(self):
        for below, total in ((1, 4), (2, 7), (10, 40), (11, 43)):
            self.assertEqual(self.call(total_letters, english(1), below), total)
            self.assertEqual(self.call(total_letters, table=english(1), below=below), total)

    def test_all_numbers_of_scale_words(self):
        group = sum(counted(english(0), number) for number in range(1, 1000))
        for many in range(21):
            # Each group stands behind and ahead of all the others, and has its scale word unless it is 000.
            table = wide_table(many)
            total = 4 + (group * (many + 1) + 999 * 6 * many) * 1000 ** many
            self.assertEqual(self.call(total_letters, table), total)
            self.assertEqual(self.call(total_letters, table, None), total)
            self.assertEqual(self.call(total_letters, table, limit(table)), total)

    def test_as_the_counts_tell(self):
        for table in (nested_table(2), mixed_table(2, 18)):
            for below in (10 ** 6 + 1, 345678901, 999999999, None):
                total = sum(many * count_with_letters(table, many, below) for many in range(301))
                self.assertEqual(total_letters(table, below), total)

    def test_one_number_more(self):
        for table in [english(10), *great_tables()]:
            top = limit(table)
            for number in (1, 999, 1000, 10 ** 6 - 1, 10 ** 6, top // 7, 345 * (top // 1000), top // 3 + 1, top - 1):
                total = total_letters(table, number) + counted(table, number)
                self.assertEqual(total_letters(table, number + 1), total)

    def test_below_check(self):
        self.assert_below_check(total_letters)

    def test_table_check_comes_first(self):
        self.assert_table_check(total_letters)
        self.assert_table_check(total_letters, below=0)


class LeastAndGreatest(Checks, unittest.TestCase):
    def test_against_a_search_without_scale_words(self):
        for table in [*small_tables(), sized_table([1, 2])]:
            sizes = [counted(table, number) for number in range(1000)]
            for many in range(-1, 101):
                found = [number for number, size in enumerate(sizes) if size == many]
                self.assertEqual(least_with_letters(table, many), min(found, default=None))
                self.assertEqual(greatest_with_letters(table, many), max(found, default=None))

    def test_against_a_search_with_one_scale_word(self):
        for table in (english(1), nested_table(1), mixed_table(1, 19)):
            low = [counted(table, number) for number in range(1000)]
            least, greatest = {}, {}
            for number in range(1000000):
                high, rest = divmod(number, 1000)
                size = low[rest] if high == 0 or rest > 0 else 0
                if high > 0:
                    size += low[high] + len(table[3][0])
                least.setdefault(size, number)
                greatest[size] = number
            for many in range(-1, 202):
                self.assertEqual(least_with_letters(table, many), least.get(many))
                self.assertEqual(greatest_with_letters(table, many), greatest.get(many))

    def test_english(self):
        table = english(1)
        for many, least, greatest in ((3, 1, 10), (4, 0, 9), (5, 3, 60), (9, 17, 96), (11, 23, 10000), (2, None, None),
                                      (56, 373373, 878878), (57, None, None)):
            for action, told in ((least_with_letters, least), (greatest_with_letters, greatest)):
                with self.subTest(action=action, many=many):
                    self.assertEqual(self.call(action, table, many), told)
                    self.assertEqual(self.call(action, table=table, many=many), told)

    def test_word_of_zero(self):
        ones, tens, hundred, scales = english(2)
        # No other name has 2 letters; others have 13.
        short = (["no", *ones[1:]], tens, hundred, scales)
        long = (["nothingatallx", *ones[1:]], tens, hundred, scales)
        self.assertEqual((least_with_letters(short, 2), greatest_with_letters(short, 2)), (0, 0))
        self.assertEqual((least_with_letters(short, 4), greatest_with_letters(short, 4)), (4, 9))
        self.assertEqual(least_with_letters(long, 13), 0)
        self.assertEqual(letters(long, greatest_with_letters(long, 13)), 13)
        self.assertGreater(greatest_with_letters(long, 13), 0)

    def test_none_has_so_many(self):
        for table in [*valid_tables(), *great_tables()]:
            for many in (*NO_LETTERS, *TOO_MANY):
                self.assertIsNone(self.call(least_with_letters, table, many))
                self.assertIsNone(self.call(greatest_with_letters, table, many))

    def test_great_tables(self):
        for table in [english(10), wide_table(20), mixed_table(20, 4)]:
            for many in (1, 2, 3, 4, 5, 7, 11, 50, 345, 600, 900, 1500):
                least, greatest = least_with_letters(table, many), greatest_with_letters(table, many)
                total = count_with_letters(table, many)
                if total == 0:
                    self.assertEqual((least, greatest), (None, None))
                else:
                    self.assertEqual((counted(table, least), counted(table, greatest)), (many, many))
                    # The number itself counts as the first one, and as the last one.
                    self.assertEqual(count_with_letters(table, many, least + 1), 1)
                    self.assertEqual(count_with_letters(table, many, greatest + 1), total)
                    if greatest > 0:
                        self.assertEqual(count_with_letters(table, many, greatest), total - 1)

    def test_most_letters_of_all(self):
        ones, tens, hundred, scales = wide_table(20)
        # By this table, no other group has as many letters as 999.
        nines = ([*ones[:9], "nineteenths", *ones[10:]], [*tens[:7], "ninetyninths"], hundred, scales)
        for table in (nines, *great_tables()):
            low = [counted(table, number) for number in range(1000)]
            longest = [number for number in range(1000) if low[number] == max(low[1:]) and number > 0]
            least = greatest = 0
            for _ in range(21):
                least, greatest = least * 1000 + longest[0], greatest * 1000 + longest[-1]
            many = 21 * max(low[1:]) + sum(len(word) for word in table[3])
            self.assertEqual(least_with_letters(table, many), least)
            self.assertEqual(greatest_with_letters(table, many), greatest)
            self.assertIsNone(least_with_letters(table, many + 1))
            self.assertIsNone(greatest_with_letters(table, many + 1))

    def test_table_check(self):
        for action in (least_with_letters, greatest_with_letters):
            self.assert_table_check(action, many=4)
            self.assert_table_check(action, many=0)


class Rings(Checks, unittest.TestCase):
    def test_english(self):
        for scales in range(11):
            table = english(scales)
            self.assertEqual(self.call(rings, table), [[4]])
            self.assertEqual(self.call(rings, table=table), [[4]])
            for number in (0, 1, 4, 7, 999, limit(table) - 1):
                self.assertEqual(self.call(ring, table, number), [4])
                self.assertEqual(self.call(ring, table=table, number=number), [4])

    def test_made_rings(self):
        tables = ring_tables()
        told = [[circle for circle in rings(table) if circle[0] < 10] for table in tables[:6]]
        self.assertEqual(told, [
            [[4, 5]], [[2], [3, 9, 5]], [[1], [2, 7, 4, 10], [3], [5]], [[1, 2, 3], [4, 6, 5], [7, 8, 9]],
            [[1, 9], [2, 8], [3, 7], [4, 6], [5]], [list(range(1, 20))],
        ])

    def test_ring_begins_with_its_least_number(self):
        tables = ring_tables()
        for number in (3, 5, 9):
            self.assertEqual(ring(tables[1], number), [3, 9, 5])
        for number in (2, 4, 7, 10, 6, 8):
            self.assertEqual(ring(tables[2], number), [2, 7, 4, 10])
        for number in range(1, 20):
            self.assertEqual(ring(tables[5], number), list(range(1, 20)))

    def test_ring_against_taking_steps(self):
        for table in [*ring_tables(), *small_tables(), odd_table()]:
            top = limit(table)
            steps = Steps(table)
            for number in [*range(0, 25), 99, 345, 999, top // 3, top - 1]:
                self.assertEqual(self.call(ring, table, number), steps.ring(number))

    def test_rings_against_taking_steps(self):
        for table in [*ring_tables(), *small_tables(), *great_tables(), *valid_tables()]:
            self.assertEqual(self.call(rings, table), Steps(table).rings())

    def test_rings_are_those_of_all_numbers(self):
        for table in [*ring_tables(), *small_tables()]:
            found = rings(table)
            self.assertEqual(found, sorted(found))
            told = {tuple(ring(table, number)) for number in range(1000)}
            self.assertLessEqual(told, {tuple(circle) for circle in found})
            for circle in found:
                self.assertEqual(circle[0], min(circle))
                for number in circle:
                    self.assertEqual(ring(table, number), circle)
            members = [number for circle in found for number in circle]
            self.assertEqual(len(set(members)), len(members))

    def test_ring_of_great_numbers(self):
        # Names of nearly 2100 letters, which are more than a group can have.
        words = [(letter * 20)[:19] + "z" for letter in LETTERS]
        table = (words, [word[:-1] + "y" for word in words[:8]], "x" * 20, [word[:-1] + "w" for word in words])
        self.assertEqual(letters(table, limit(table) - 1), 2080)
        self.assertEqual(ring(table, limit(table) - 1), Steps(table).ring(limit(table) - 1))
        self.assertEqual(rings(table), Steps(table).rings())

    def test_new_lists(self):
        table = ring_tables()[3]
        first = rings(table)
        kept = deepcopy(first)
        first[0].append(99)
        first.pop()
        self.assertEqual(rings(table), kept)
        one = ring(table, 1)
        one.clear()
        self.assertEqual(ring(table, 1), kept[0])
        self.assertIsNot(ring(table, 1), ring(table, 1))

    def test_number_check(self):
        for table in valid_tables():
            for number in (-1, limit(table), limit(table) + 1, -10 ** 70, 10 ** 70):
                self.assert_raises_exactly(InvalidNumber, number, ring, table, number)
                self.assert_raises_exactly(InvalidNumber, number, ring, table=table, number=number)

    def test_table_check(self):
        self.assert_table_check(rings)
        self.assert_table_check(ring, number=0)
        self.assert_table_check(ring, number=-1)


class Examples(unittest.TestCase):
    def test_examples_of_the_document(self):
        table = english(1)
        told = [letters(table, 21), count_with_letters(table, 3, 100), total_letters(table, 10),
                least_with_letters(table, 11), greatest_with_letters(table, 11), ring(table, 7), rings(table)]
        self.assertEqual(told, [9, 4, 40, 23, 10000, [4], [[4]]])


if __name__ == "__main__":
    unittest.main()
