import unittest
from random import Random

from samples import (
    BelowChecks, Checks, great_tables, mixed_table, names_below_million, nested_table, odd_table, small_tables,
    sorted_by_name, wide_table,
)
from wordorder.continuations import following
from wordorder.names import name, number_of, words_of
from wordorder.places import number_at, place
from wordorder.tables import english, limit

# Some of them in the middle of a group.
BOUNDS = (1, 2, 10, 20, 21, 100, 101, 345, 999, 1000, 1001, 1015, 1100, 1500, 1999, 2000, 2345)


def some_places(top, seed):
    """Places of a table with this limit: at both ends, and some by chance, always the same ones."""
    chance = Random(seed)
    return [0, 1, *sorted(chance.randrange(top) for _ in range(7)), top - 2, top - 1]


def next_name(table, words):
    """The words of the name that comes next in alphabetical order, None behind the last one."""
    nexts, _ = following(table, words)
    if nexts:
        return [*words, nexts[0]]
    shorter = list(words)
    while shorter:
        last = shorter.pop()
        later = [word for word in following(table, shorter)[0] if word > last]
        if later:
            return [*shorter, later[0]]
    return None


class Place(BelowChecks, unittest.TestCase):
    def test_against_sorting(self):
        for table in small_tables():
            for below in (1, 2, 10, 20, 99, 345, 999, 1000, None):
                ordered = sorted_by_name(table, range(below or 1000))
                self.assertEqual([place(table, number, below) for number in ordered], list(range(len(ordered))))

    def test_against_sorting_across_groups(self):
        for table in (english(1), english(2), nested_table(2), mixed_table(1, 7), odd_table()):
            for below in BOUNDS:
                ordered = sorted_by_name(table, range(below))
                for spot in [*range(0, below, 7), below - 1]:
                    self.assertEqual(place(table, ordered[spot], below), spot)

    def test_all_names_with_one_scale_word(self):
        for table in (english(1), nested_table(1)):
            names = sorted(names_below_million(table))
            for spot in [*range(100), *range(0, 1000000, 5003), *range(999900, 1000000)]:
                self.assertEqual(place(table, number_of(table, names[spot])), spot)

    def test_english(self):
        table = english(2)
        for number, below, spot in ((0, 10, 9), (8, 10, 0), (80, 100, 2), (0, 1, 0), (1, 2, 0), (0, 2, 1)):
            self.assertEqual(self.call(place, table, number, below), spot)
            self.assertEqual(self.call(place, table=table, number=number, below=below), spot)
        self.assertEqual([place(table, number) for number in (8, 800, 808, 0)], [0, 1, 2, 10 ** 9 - 1])
        # Before eight million come eight, and eight hundred with all that goes on from there.
        self.assertEqual(place(table, 8000000), 1 + 100 * 1001001)

    def test_none_is_the_limit(self):
        self.assert_none_is_the_limit(place, "number")

    def test_below_check(self):
        self.assert_below_check(place, number=0)
        self.assert_below_check(place, number=-1)
        self.assert_below_check(place, number=10 ** 70)

    def test_numbers_that_are_not_sorted(self):
        self.assert_spot_check(place, "number")

    def test_table_check_comes_first(self):
        self.assert_table_check(place, number=0)
        self.assert_table_check(place, number=-1)
        self.assert_table_check(place, number=-1, below=0)


class NumberAt(BelowChecks, unittest.TestCase):
    def test_against_sorting(self):
        for table in small_tables():
            for below in (1, 2, 10, 20, 99, 345, 999, 1000, None):
                ordered = sorted_by_name(table, range(below or 1000))
                self.assertEqual([number_at(table, spot, below) for spot in range(len(ordered))], ordered)

    def test_against_sorting_across_groups(self):
        for table in (english(1), english(2), nested_table(2), mixed_table(1, 7), odd_table()):
            for below in BOUNDS:
                ordered = sorted_by_name(table, range(below))
                for spot in [*range(0, below, 7), below - 1]:
                    self.assertEqual(number_at(table, spot, below), ordered[spot])

    def test_all_names_with_one_scale_word(self):
        for table in (english(1), nested_table(1)):
            names = sorted(names_below_million(table))
            for spot in [*range(100), *range(0, 1000000, 5003), *range(999900, 1000000)]:
                self.assertEqual(name(table, number_at(table, spot)), names[spot])

    def test_english(self):
        table = english(2)
        for spot, below, number in ((0, 10, 8), (9, 10, 0), (3, 100, 88), (0, 1, 0), (0, 2, 1), (1, 2, 0)):
            self.assertEqual(self.call(number_at, table, spot, below), number)
            self.assertEqual(self.call(number_at, table=table, spot=spot, below=below), number)
        self.assertEqual([number_at(table, spot) for spot in range(4)], [8, 800, 808, 808000000])
        self.assertEqual(number_at(table, 10 ** 9 - 1), 0)

    def test_none_is_the_limit(self):
        self.assert_none_is_the_limit(number_at, "spot")

    def test_below_check(self):
        self.assert_below_check(number_at, spot=0)
        self.assert_below_check(number_at, spot=-1)
        self.assert_below_check(number_at, spot=10 ** 70)

    def test_places_that_do_not_exist(self):
        self.assert_spot_check(number_at, "spot")

    def test_table_check_comes_first(self):
        self.assert_table_check(number_at, spot=0)
        self.assert_table_check(number_at, spot=-1)
        self.assert_table_check(number_at, spot=-1, below=0)


class Both(Checks, unittest.TestCase):
    def test_each_leads_back_from_the_other(self):
        for table in [english(2), english(10), odd_table(), *great_tables()]:
            top = limit(table)
            for below in (None, top, top - 1, top // 2, top // 3 + 345, 1000 * 1000 - 1):
                for spot in some_places(below or top, 1):
                    number = number_at(table, spot, below)
                    self.assertLess(number, below or top)
                    self.assertEqual(place(table, number, below), spot)
                    self.assertEqual(number_at(table, place(table, spot, below), below), spot)

    def test_first_and_last_place(self):
        for table in [english(10), *great_tables()]:
            words = [min([*table[0], *table[1]])]
            self.assertEqual(number_at(table, 0), number_of(table, words[0]))
            self.assertEqual(place(table, number_of(table, words[0])), 0)
            last = []
            nexts = following(table, last)[0]
            while nexts:
                last.append(nexts[-1])
                nexts = following(table, last)[0]
            self.assertEqual(name(table, number_at(table, limit(table) - 1)), " ".join(last))
            self.assertEqual(place(table, number_of(table, " ".join(last))), limit(table) - 1)

    def test_neighbouring_places_have_neighbouring_names(self):
        for table in [english(1), english(10), nested_table(3), *great_tables()]:
            top = limit(table)
            for spot in some_places(top - 1, 2):
                words = next_name(table, list(words_of(table, number_at(table, spot))))
                if spot < top - 1:
                    self.assertEqual(name(table, number_at(table, spot + 1)), " ".join(words))
                    self.assertEqual(place(table, number_of(table, " ".join(words))), spot + 1)
            self.assertIsNone(next_name(table, list(words_of(table, number_at(table, top - 1)))))

    def test_numbers_around_great_bounds(self):
        for table in great_tables():
            for below in (10 ** 60, 10 ** 60 + 1, 10 ** 62 + 10 ** 30 + 512, 999 * 10 ** 57):
                for number in (0, 1, 19, 999, 1000, 10 ** 30, below // 1000, below // 7, below - 2, below - 1):
                    spot = place(table, number, below)
                    self.assertEqual(number_at(table, spot, below), number)
                # One more number comes before all that stand behind it, and changes no other places.
                added = place(table, below, below + 1)
                for number in (0, 2, 20, 1000, 10 ** 30 + 7, below // 3, below - 1):
                    more = 1 if name(table, below) < name(table, number) else 0
                    self.assertEqual(place(table, number, below + 1), place(table, number, below) + more)
                    self.assertEqual(place(table, number, below) >= added, more == 1)

    def test_bounds_down_to_all_numbers_of_twenty_scale_words(self):
        table = wide_table(20)
        for many in range(1, 21):
            # By the same words, the numbers below the limit of fewer scale words have the same order.
            fewer = wide_table(many)
            for spot in some_places(limit(fewer), 3):
                self.assertEqual(number_at(table, spot, limit(fewer)), number_at(fewer, spot))


class Examples(unittest.TestCase):
    def test_examples_of_the_document(self):
        table = english(2)
        told = [place(table, 0, 10), [number_at(table, spot, 10) for spot in range(10)], place(table, 80, 100),
                number_at(table, 3, 100)]
        self.assertEqual(told, [9, [8, 5, 4, 9, 1, 7, 6, 3, 2, 0], 2, 88])


if __name__ == "__main__":
    unittest.main()
