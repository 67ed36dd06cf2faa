import unittest
from collections import Counter
from copy import deepcopy
from itertools import islice, permutations
from math import factorial, prod

from samples import (
    Checks, great_tables, mixed_table, names_below_million, nested_table, odd_table, small_tables, valid_tables,
    wide_table,
)
from wordorder.errors import InvalidNumber, Unreadable
from wordorder.names import name, number_of, words_of
from wordorder.rearranged import (
    count_rearrangements, greatest_rearrangement, least_rearrangement, rearrangements,
)
from wordorder.tables import english, limit

COUNTED = (count_rearrangements, least_rearrangement, greatest_rearrangement)


def walked(*args, **named):
    return list(rearrangements(*args, **named))


def families(names):
    """The lists of all numbers whose names have the same words, each list ascending, by the names of 0, 1, 2 and on."""
    found = {}
    for number, text in enumerate(names):
        found.setdefault(tuple(sorted(text.split(" "))), []).append(number)
    return list(found.values())


def number_of_groups(groups):
    """The number with these groups, the highest one first."""
    number = 0
    for group in groups:
        number = number * 1000 + group
    return number


class Rearranged(Checks, unittest.TestCase):
    def assert_family(self, table, family, number):
        """The family is what is told of one of its numbers."""
        self.assertEqual(self.call(walked, table, number), family)
        told = [self.call(action, table, number) for action in COUNTED]
        self.assertEqual(told, [len(family), family[0], family[-1]])

    def assert_sound(self, table, number):
        """What is told of a number holds together, if it has not too many rearrangements."""
        found = walked(table, number)
        self.assertEqual([action(table, number) for action in COUNTED], [len(found), found[0], found[-1]])
        self.assertEqual(found, sorted(set(found)))
        self.assertIn(number, found)
        words = Counter(words_of(table, number))
        for other in found:
            self.assertEqual(Counter(words_of(table, other)), words)
        return found


class AgainstAllNumbers(Rearranged):
    def test_without_scale_words(self):
        for table in small_tables():
            for family in families([name(table, number) for number in range(1000)]):
                for number in family:
                    self.assert_family(table, family, number)

    def test_with_one_scale_word(self):
        for table, skip in ((english(1), 61), (nested_table(1), 307)):
            found = families(names_below_million(table))
            largest = max(found, key=len)
            for family in [*found[::skip], *found[:40], *found[-40:], largest]:
                self.assert_family(table, family, family[len(family) // 3])
            # Families in which a group is empty for some numbers and full for others.
            mixed = [family for family in found if len({number % 1000 == 0 for number in family}) == 2]
            self.assertGreater(len(mixed), 100)
            for family in mixed[::skip]:
                for number in (family[0], family[len(family) // 2], family[-1]):
                    self.assert_family(table, family, number)


class Few(Rearranged):
    def test_known_families(self):
        table = english(2)
        for family in ([102, 201], [103, 301], [1002, 2001], [1100, 100001, 101000], [3050, 50003, 53000],
                       [1019, 19001], [1200, 2100, 100002, 102000, 200001, 201000]):
            for number in family:
                with self.subTest(number=number):
                    self.assert_family(table, family, number)

    def test_one_rearrangement(self):
        table = english(2)
        for number in (0, 1, 9, 10, 19, 20, 21, 99, 100, 111, 120, 900, 999, 1000, 1001, 20000000, 111111111,
                       999999999):
            with self.subTest(number=number):
                self.assert_family(table, [number], number)

    def test_against_all_orders_of_the_words(self):
        for table in (english(3), nested_table(20), mixed_table(20, 4)):
            top = limit(table)
            for number in (1111111, 345000, 80120, top // 1000 * 21 + 7, top // 1000 + 20001, top // 1000000 * 107000):
                with self.subTest(number=number):
                    family = set()
                    for words in set(permutations(words_of(table, number))):
                        try:
                            family.add(number_of(table, " ".join(words)))
                        except Unreadable:
                            pass
                    self.assert_family(table, sorted(family), number)

    def test_zero_and_one_word(self):
        for table in [*valid_tables(), *small_tables(), *great_tables()]:
            for number in (0, 1, 9, 10, 15, 19, 20, 50, 90):
                self.assert_family(table, [number], number)

    def test_greatest_number(self):
        for table in [*valid_tables(), *small_tables(), *great_tables()]:
            self.assert_family(table, [limit(table) - 1], limit(table) - 1)

    def test_group_becomes_empty_or_full(self):
        table = english(2)
        # One hundred moves to the other groups, until the lowest one has no word.
        self.assertEqual(walked(table, 1000100), [1000100, 100000001, 101000000])
        self.assertEqual(walked(table, 101000000), [1000100, 100000001, 101000000])
        self.assertEqual(walked(table, 20000003), [3000020, 20000003, 23000000])
        self.assertEqual(walked(table, 12013000), [12013000, 13012000])
        self.assertEqual(walked(table, 1002003), walked(table, 3002001))
        self.assertEqual(walked(table, 1002003), sorted(number_of_groups(groups) for groups in permutations((1, 2, 3))))

    def test_words_that_stand_there_more_than_once(self):
        table = english(2)
        for number, family in ((1001001, [1001001]), (2001001, [1001002, 1002001, 2001001]), (100100, [100100]),
                               (101000, [1100, 100001, 101000]), (101, [101]), (20021, [20021, 21020]),
                               (101101, [101101]), (5005, [5005]), (11012, [11012, 12011])):
            with self.subTest(number=number):
                self.assert_family(table, family, number)

    def test_ascending_by_number_not_by_name(self):
        table = english(2)
        found = walked(table, 8001005)
        self.assertEqual(found, [1005008, 1008005, 5001008, 5008001, 8001005, 8005001])
        self.assertNotEqual(found, sorted(found, key=lambda number: name(table, number)))

    def test_other_tables(self):
        for table in [nested_table(4), mixed_table(4, 21), odd_table(), nested_table(2)]:
            top = limit(table)
            for number in (top // 1000 * 20 + 345, top // 1000 + 7, 1002, top // 100, 303202, 20020000):
                with self.subTest(number=number):
                    self.assert_sound(table, number)


class Many(Rearranged):
    def assert_ends(self, table, number, count, least, greatest):
        self.assertEqual([self.call(action, table, number) for action in COUNTED], [count, least, greatest])
        self.assertEqual([action(table=table, number=number) for action in COUNTED], [count, least, greatest])
        for other in (least, greatest):
            self.assertEqual(Counter(words_of(table, other)), Counter(words_of(table, number)))
        self.assertEqual(next(rearrangements(table, number)), least)

    def test_single_digits_in_all_groups(self):
        groups = [1, 2, 3, 4, 5, 6, 7, 8, 9] * 2 + [1, 2, 3]
        count = factorial(21) // prod(factorial(times) for times in Counter(groups).values())
        for table in great_tables():
            self.assert_ends(table, number_of_groups(groups), count, number_of_groups(sorted(groups)),
                             number_of_groups(sorted(groups, reverse=True)))

    def test_each_kind_alone_in_all_groups(self):
        for kinds in (range(10, 20), range(20, 100, 10), range(100, 1000, 100)):
            groups = [kinds[at * 5 % len(kinds)] for at in range(21)]
            count = factorial(21) // prod(factorial(times) for times in Counter(groups).values())
            self.assert_ends(wide_table(20), number_of_groups(groups), count, number_of_groups(sorted(groups)),
                             number_of_groups(sorted(groups, reverse=True)))

    def test_one_hundred_among_ones(self):
        # Hundred stands alone behind its one in one of 21 groups, or one group of 20 has a one behind it.
        number = number_of_groups([100] + [1] * 20)
        self.assert_ends(wide_table(20), number, 41, number_of_groups([1] * 20 + [100]),
                         number_of_groups([101] + [1] * 19 + [0]))
        self.assert_sound(wide_table(20), number)

    def test_tens_may_take_a_digit_with_them(self):
        # The digit stands behind one of the tens, or alone in one of the groups, of which then one more is full.
        number = number_of_groups([0] + [20] * 19 + [25])
        self.assert_sound(wide_table(20), number)
        self.assertEqual(count_rearrangements(wide_table(20), number), 20)
        number = number_of_groups([21] + [20] * 19 + [0])
        self.assertEqual(count_rearrangements(wide_table(20), number), 41)
        self.assert_sound(wide_table(20), number)

    def test_all_groups_full(self):
        table = wide_table(20)
        number = number_of_groups([345, 120, 7, 19, 900, 111, 201, 42, 560, 13, 8, 80, 777, 305, 412, 6, 1, 99, 118, 20,
                                   333])
        count, least, greatest = [self.call(action, table, number) for action in COUNTED]
        self.assertGreater(count, 10 ** 30)
        self.assertLess(least, number)
        self.assertLess(number, greatest)
        words = Counter(words_of(table, number))
        for other in (least, greatest):
            self.assertEqual(Counter(words_of(table, other)), words)
            self.assertEqual(count_rearrangements(table, other), count)
            self.assertEqual((least_rearrangement(table, other), greatest_rearrangement(table, other)),
                             (least, greatest))

    def test_walk_stops_early(self):
        for table in great_tables():
            number = number_of_groups([345, 120, 7, 19, 900, 111, 201] * 3)
            found = list(islice(rearrangements(table, number), 300))
            self.assertEqual(found[0], least_rearrangement(table, number))
            self.assertEqual(found, sorted(set(found)))
            words = Counter(words_of(table, number))
            for other in found:
                self.assertEqual(Counter(words_of(table, other)), words)
            told = []
            for other in rearrangements(table=table, number=number):
                told.append(other)
                if len(told) == 5:
                    break
            self.assertEqual(told, found[:5])

    def test_some_thousands(self):
        table = english(4)
        for number in (12203040506, 111222333, 20303040012, 1002003004005):
            found = self.assert_sound(table, number)
            self.assertGreater(len(found), 50)

    def test_scale_words_stay(self):
        table = wide_table(20)
        for number in (5 * 10 ** 60 + 3, 10 ** 60 + 2 * 10 ** 30, 10 ** 60 + 20 * 10 ** 33 + 3):
            scales = sorted(word for word in words_of(table, number) if word in table[3])
            for other in self.assert_sound(table, number):
                self.assertEqual(sorted(word for word in words_of(table, other) if word in table[3]), scales)


class Walks(Checks, unittest.TestCase):
    def test_number_by_number(self):
        walk = rearrangements(english(2), 102)
        self.assertEqual([next(walk), next(walk)], [102, 201])
        self.assertRaises(StopIteration, next, walk)

    def test_two_walks_at_the_same_time(self):
        first, second = rearrangements(english(2), 102000), rearrangements(english(2), 50003)
        told = [next(first), next(second), next(second), next(first), next(first), next(second)]
        self.assertEqual(told, [1200, 3050, 50003, 2100, 100002, 53000])
        self.assertEqual((list(second), list(first)), ([], [102000, 200001, 201000]))

    def test_one_walk_within_another(self):
        table = english(2)
        told = [(number, other) for number in rearrangements(table, 50003) for other in rearrangements(table, number)]
        family = [3050, 50003, 53000]
        self.assertEqual(told, [(number, other) for number in family for other in family])

    def test_table_changed_under_way(self):
        table = english(2)
        walk = rearrangements(table, 50003)
        self.assertEqual(next(walk), 3050)
        table[0][3] = "zzz"
        table[3].clear()
        self.assertEqual(list(walk), [50003, 53000])

    def test_table_stays_the_same_under_way(self):
        table = english(2)
        before = deepcopy(table)
        for _ in rearrangements(table, 102000):
            self.assertEqual(table, before)


class Errors(Checks, unittest.TestCase):
    def test_number_check(self):
        for action in (*COUNTED, walked):
            self.assert_number_check(action)

    def test_table_check_comes_first(self):
        for action in (*COUNTED, walked):
            self.assert_table_check(action, number=0)
            self.assert_table_check(action, number=-1)

    def test_no_number_before_an_error(self):
        wrong = (*english(1)[:3], ["thousand", "X"])
        for table, number in ((english(1), 10 ** 6), (english(1), -1), (wrong, 5)):
            told = []
            with self.assertRaises(ValueError):
                for other in rearrangements(table, number):
                    told.append(other)
            self.assertEqual(told, [])

    def test_error_at_once_or_with_the_first_number(self):
        with self.assertRaises(InvalidNumber) as held:
            next(rearrangements(english(0), 1000))
        self.assertEqual(held.exception.value, 1000)


class Examples(unittest.TestCase):
    def test_examples_of_the_document(self):
        table = english(2)
        told = [list(rearrangements(table, 102000)), count_rearrangements(table, 21),
                least_rearrangement(table, 50003), greatest_rearrangement(table, 50003)]
        self.assertEqual(told, [[1200, 2100, 100002, 102000, 200001, 201000], 1, 3050, 53000])


if __name__ == "__main__":
    unittest.main()
