import unittest
from bisect import bisect_left
from copy import deepcopy
from itertools import islice
from random import Random

from samples import (
    Checks, great_tables, mixed_table, nested_table, odd_table, small_tables, sorted_by_name, valid_tables, wide_table,
)
from wordorder.errors import InvalidNumber, InvalidRange
from wordorder.names import name
from wordorder.places import number_at, place
from wordorder.ranges import after, before, count_before, in_order, nth_in_range
from wordorder.tables import english, limit

# Ranges by tables with at least one scale word and two of them.
RANGES = ((0, 0), (5, 5), (999, 999), (1000, 1000), (0, 1), (0, 99), (18, 22), (95, 130), (780, 1220), (999, 1001),
          (1900, 2105), (20990, 21130), (99900, 100110), (999400, 999999))
GREAT_RANGES = ((999850, 1000150), (1000000, 1000000), (21000900, 21001100), (999999700, 999999999))


def walked(*args, **named):
    return list(in_order(*args, **named))


def tables_and_ranges():
    """Tuples (table, low, high) of ranges of up to some hundred numbers."""
    cases = [(table, low, high) for table in small_tables()
             for low, high in ((0, 0), (0, 19), (7, 7), (95, 130), (300, 999), (999, 999), (0, 999))]
    for table in (english(1), english(2), nested_table(1), mixed_table(2, 8), odd_table()):
        cases += [(table, low, high) for low, high in RANGES]
    for table in (english(2), nested_table(2), mixed_table(2, 8), odd_table()):
        cases += [(table, low, high) for low, high in GREAT_RANGES]
    for table in great_tables():
        cases += [(table, low, low + 150) for low in (0, 10 ** 60 - 75, limit(table) // 7, limit(table) - 151)]
    return cases


def numbers_to_ask(table, low, high):
    """Numbers within a range, at its ends and outside of it."""
    top = limit(table)
    numbers = [low, high, low - 1, high + 1, (low + high) // 2, (2 * low + high) // 3, 0, 1, 8, 20, 88, 999, 1000, 8000,
               80080, 999999, 1000000, top // 3, top - 2, top - 1]
    return sorted({number for number in numbers if 0 <= number < top})


class RangeCheck(Checks):
    def assert_range_check(self, action, *others, **named):
        """The call makes the Range check; the others stand before the range."""
        for table in valid_tables():
            top = limit(table)
            for low, high in ((-1, 0), (-1, 5), (0, top), (5, top), (top, top), (top - 1, top), (0, 10 ** 70),
                              (-10 ** 70, 10 ** 70), (-10 ** 70, 3), (2, 1), (999, 0), (top - 1, top - 2), (5, -1),
                              (0, -1), (-1, -1), (-3, -2), (-2, -3), (top + 1, top), (top, 0), (top, -1)):
                with self.subTest(low=low, high=high):
                    by_name = {"table": table, **named, "low": low, "high": high}
                    self.assert_raises_exactly(InvalidRange, (low, high), action, table, *others, low, high)
                    self.assert_raises_exactly(InvalidRange, (low, high), action, **by_name)

    def assert_number_check_before_range(self, action):
        """The call makes the Number check, and then the Range check."""
        self.assert_range_check(action, 0, number=0)
        self.assert_range_check(action, 999, number=999)
        for table in valid_tables():
            top = limit(table)
            for number in (-1, -2, top, top + 1, -10 ** 70, 10 ** 70):
                for low, high in ((0, 0), (0, top - 1), (3, 5), (-1, 0), (0, top), (2, 1)):
                    named = {"table": table, "number": number, "low": low, "high": high}
                    self.assert_raises_exactly(InvalidNumber, number, action, table, number, low, high)
                    self.assert_raises_exactly(InvalidNumber, number, action, **named)
        self.assert_table_check(action, number=0, low=0, high=9)
        self.assert_table_check(action, number=-1, low=0, high=9)
        self.assert_table_check(action, number=-1, low=9, high=0)


class Neighbours(RangeCheck, unittest.TestCase):
    def test_against_sorting(self):
        for table, low, high in tables_and_ranges():
            ordered = sorted_by_name(table, range(low, high + 1))
            names = [name(table, number) for number in ordered]
            for number in numbers_to_ask(table, low, high):
                with self.subTest(low=low, high=high, number=number):
                    spot = bisect_left(names, name(table, number))
                    behind = spot + 1 if low <= number <= high else spot
                    self.assertEqual(count_before(table, number, low, high), spot)
                    self.assertEqual(before(table, number, low, high), ordered[spot - 1] if spot > 0 else None)
                    self.assertEqual(after(table, number, low, high), [*ordered, None][behind])

    def test_each_number_of_a_range(self):
        for table, low, high in ((english(0), 0, 999), (nested_table(1), 900, 1100), (mixed_table(0, 1), 17, 400)):
            ordered = sorted_by_name(table, range(low, high + 1))
            for spot, number in enumerate(ordered):
                self.assertEqual(count_before(table, number, low, high), spot)
                self.assertEqual(before(table, number, low, high), [None, *ordered][spot])
                self.assertEqual(after(table, number, low, high), [*ordered, None][spot + 1])

    def test_english(self):
        table = english(2)
        for action, number, low, high, told in (
                (count_before, 80, 0, 99, 2), (count_before, 0, 0, 9, 9), (count_before, 8, 0, 9, 0),
                (count_before, 0, 1, 9, 9), (count_before, 8, 1000, 2000, 0), (count_before, 5, 5, 5, 0),
                (count_before, 4, 5, 5, 1), (before, 80, 0, 99, 18), (before, 8, 0, 99, None), (before, 5, 5, 5, None),
                (before, 4, 5, 5, 5), (before, 8, 9, 9, None), (after, 2, 0, 2, 0), (after, 0, 0, 99, None),
                (after, 5, 5, 5, None), (after, 8, 5, 5, 5), (after, 9, 8, 8, None), (after, 8, 0, 10 ** 9 - 1, 800)):
            with self.subTest(action=action, number=number, low=low, high=high):
                self.assertEqual(self.call(action, table, number, low, high), told)
                self.assertEqual(self.call(action, table=table, number=number, low=low, high=high), told)

    def test_great_ranges(self):
        for table in [english(10), *great_tables()]:
            top = limit(table)
            chance = Random(9)
            for _ in range(5):
                low, middle, high, number = (chance.randrange(top) for _ in range(4))
                low, middle, high = sorted([low, middle, high])
                low_part = count_before(table, number, low, middle)
                self.assertEqual(low_part + count_before(table, number, middle + 1, high),
                                 count_before(table, number, low, high))
                self.assertEqual(count_before(table, number, 0, top - 1), place(table, number))
                self.assert_neighbours(table, number, low, high)
                for at_end in (low, high):
                    self.assert_neighbours(table, at_end, low, high)

    def assert_neighbours(self, table, number, low, high):
        """The numbers before and behind a number are in the range, at the places next to that of the number."""
        spot = count_before(table, number, low, high)
        behind = spot + 1 if low <= number <= high else spot
        first, last = before(table, number, low, high), after(table, number, low, high)
        if spot == 0:
            self.assertIsNone(first)
        else:
            self.assertTrue(low <= first <= high)
            self.assertLess(name(table, first), name(table, number))
            self.assertEqual(count_before(table, first, low, high), spot - 1)
        if behind == high - low + 1:
            self.assertIsNone(last)
        else:
            self.assertTrue(low <= last <= high)
            self.assertLess(name(table, number), name(table, last))
            self.assertEqual(count_before(table, last, low, high), behind)

    def test_none_at_the_ends_of_great_ranges(self):
        for table in great_tables():
            top = limit(table)
            for low, high in ((0, top - 1), (10 ** 30, 10 ** 61 + 5)):
                first = nth_in_range(table, 0, low, high)
                last = nth_in_range(table, high - low, low, high)
                self.assertIsNone(before(table, first, low, high))
                self.assertIsNone(after(table, last, low, high))
                self.assertEqual(count_before(table, first, low, high), 0)
                self.assertEqual(count_before(table, last, low, high), high - low)
                self.assertIsNotNone(after(table, first, low, high))
                self.assertIsNotNone(before(table, last, low, high))

    def test_checks_of_count_before(self):
        self.assert_number_check_before_range(count_before)

    def test_checks_of_before(self):
        self.assert_number_check_before_range(before)

    def test_checks_of_after(self):
        self.assert_number_check_before_range(after)


class NthInRange(RangeCheck, unittest.TestCase):
    def test_against_sorting(self):
        for table, low, high in tables_and_ranges():
            ordered = sorted_by_name(table, range(low, high + 1))
            for spot in sorted({0, 1, len(ordered) // 3, len(ordered) // 2, len(ordered) - 2, len(ordered) - 1}):
                if 0 <= spot < len(ordered):
                    self.assertEqual(nth_in_range(table, spot, low, high), ordered[spot])

    def test_each_place_of_a_range(self):
        for table, low, high in ((english(0), 0, 999), (nested_table(1), 900, 1100), (mixed_table(0, 1), 17, 400)):
            told = [nth_in_range(table, spot, low, high) for spot in range(high - low + 1)]
            self.assertEqual(told, sorted_by_name(table, range(low, high + 1)))

    def test_english(self):
        table = english(2)
        for spot, low, high, number in ((0, 100, 999999, 800), (0, 5, 5, 5), (0, 0, 9, 8), (9, 0, 9, 0)):
            self.assertEqual(self.call(nth_in_range, table, spot, low, high), number)
            self.assertEqual(self.call(nth_in_range, table=table, spot=spot, low=low, high=high), number)

    def test_great_ranges(self):
        for table in [english(10), *great_tables()]:
            top = limit(table)
            chance = Random(10)
            for _ in range(5):
                low, high = sorted([chance.randrange(top), chance.randrange(top)])
                for spot in (0, 1, chance.randint(0, high - low), high - low - 1, high - low):
                    number = nth_in_range(table, spot, low, high)
                    self.assertTrue(low <= number <= high)
                    self.assertEqual(count_before(table, number, low, high), spot)
                self.assertEqual(nth_in_range(table, high, 0, top - 1), number_at(table, high))

    def test_places_that_do_not_exist(self):
        for table in valid_tables():
            top = limit(table)
            for low, high in ((0, 0), (5, 5), (0, 9), (100, 345), (top - 1, top - 1), (0, top - 1)):
                many = high - low + 1
                for spot in (-1, -2, many, many + 1, -10 ** 70, 10 ** 70):
                    named = {"table": table, "spot": spot, "low": low, "high": high}
                    self.assert_raises_exactly(InvalidNumber, spot, nth_in_range, table, spot, low, high)
                    self.assert_raises_exactly(InvalidNumber, spot, nth_in_range, **named)

    def test_range_check_comes_before_the_place(self):
        for spot in (0, -1, 10 ** 70):
            self.assert_range_check(nth_in_range, spot, spot=spot)

    def test_table_check_comes_first(self):
        self.assert_table_check(nth_in_range, spot=0, low=0, high=9)
        self.assert_table_check(nth_in_range, spot=-1, low=0, high=9)
        self.assert_table_check(nth_in_range, spot=-1, low=9, high=0)


class InOrder(RangeCheck, unittest.TestCase):
    def test_against_sorting(self):
        for table, low, high in tables_and_ranges():
            with self.subTest(low=low, high=high):
                ordered = sorted_by_name(table, range(low, high + 1))
                self.assertEqual(self.call(walked, table, low, high), ordered)
                self.assertEqual(self.call(walked, table=table, low=low, high=high), ordered)

    def test_number_by_number(self):
        walk = in_order(english(2), 18, 20)
        self.assertEqual([next(walk), next(walk), next(walk)], [18, 19, 20])
        self.assertRaises(StopIteration, next, walk)

    def test_great_ranges_begin_at_once(self):
        for table in [english(10), *great_tables()]:
            top = limit(table)
            for low, high in ((0, top - 1), (top // 1000 + 5, top // 7), (top // 3, top // 3 + top // 1000)):
                walk = in_order(table, low, high)
                told = [next(walk) for _ in range(30)]
                self.assertEqual(told, [nth_in_range(table, spot, low, high) for spot in range(30)])

    def test_walk_over_1e60_numbers_stops_early(self):
        table = wide_table(20)
        low = 10 ** 60 + 12345
        told = []
        for number in in_order(table, low, low + 10 ** 60 - 1):
            told.append(number)
            if len(told) == 200:
                break
        self.assertEqual(told, [nth_in_range(table, spot, low, low + 10 ** 60 - 1) for spot in range(200)])

    def test_two_walks_at_the_same_time(self):
        table = english(2)
        first, second = in_order(table, 0, 9), in_order(table, 18, 22)
        told = [next(first), next(second), next(second), next(first), next(first), next(second)]
        self.assertEqual(told, [8, 18, 19, 5, 4, 20])
        self.assertEqual((list(second), list(first)), ([21, 22], [9, 1, 7, 6, 3, 2, 0]))
        pairs = list(zip(in_order(table, 0, 9), in_order(table, 0, 9)))
        self.assertEqual(pairs, [(number, number) for number in (8, 5, 4, 9, 1, 7, 6, 3, 2, 0)])

    def test_one_walk_within_another(self):
        table = english(2)
        told = []
        for number in in_order(table, 0, 9):
            for other in islice(in_order(table, 990, 10 ** 6), 3):
                told.append((number, other))
        inner = [808000, 808008, 808800]
        self.assertEqual(told, [(number, other) for number in (8, 5, 4, 9, 1, 7, 6, 3, 2, 0) for other in inner])

    def test_table_changed_under_way(self):
        table = english(1)
        walk = in_order(table, 0, 9)
        self.assertEqual(next(walk), 8)
        table[0][5] = "zzz"
        table[3].clear()
        self.assertEqual(list(walk), [5, 4, 9, 1, 7, 6, 3, 2, 0])

    def test_table_stays_the_same_under_way(self):
        table = english(1)
        before_walk = deepcopy(table)
        for _ in in_order(table, 900, 1100):
            self.assertEqual(table, before_walk)

    def test_range_check(self):
        self.assert_range_check(walked)

    def test_table_check_comes_first(self):
        self.assert_table_check(walked, low=0, high=9)
        self.assert_table_check(walked, low=9, high=0)
        self.assert_table_check(walked, low=-1, high=10 ** 70)

    def test_no_number_before_an_error(self):
        wrong = (*english(1)[:3], ["thousand", "X"])
        for table, low, high in ((english(1), -1, 5), (english(1), 0, 10 ** 6), (english(0), 5, 4), (wrong, 0, 5)):
            told = []
            with self.assertRaises(ValueError):
                for number in in_order(table, low, high):
                    told.append(number)
            self.assertEqual(told, [])


class Examples(unittest.TestCase):
    def test_examples_of_the_document(self):
        table = english(2)
        told = [count_before(table, 80, 0, 99), nth_in_range(table, 0, 100, 999999), before(table, 80, 0, 99),
                after(table, 2, 0, 2), list(in_order(table, 18, 22))]
        self.assertEqual(told, [2, 800, 18, 0, [18, 19, 20, 21, 22]])


if __name__ == "__main__":
    unittest.main()
