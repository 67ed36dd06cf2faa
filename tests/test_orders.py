import unittest
from copy import deepcopy
from random import Random

from samples import (
    Checks, LETTERS, great_tables, mixed_table, nested_table, odd_table, small_tables, sorted_by_name, valid_tables,
    wide_table, wrong_lengths, wrong_words,
)
from wordorder.errors import InvalidTable
from wordorder.names import name
from wordorder.orders import parting_numbers, same_order
from wordorder.tables import english, limit

BOTH = (same_order, parting_numbers)
# By places in the list of all words of a table: the words of 0, of 1 to 19, of 20 to 90, hundred, and the scale words.
HUNDRED = 28


def listed(table):
    """The list of all words of a table."""
    return [*table[0], *table[1], table[2], *table[3]]


def table_of(words):
    return (words[:20], words[20:28], words[28], words[29:])


def renamed(table):
    """A table of quite other words in the same order as those of a table."""
    ordered = sorted(listed(table))
    others = {word: LETTERS[at // 20] + LETTERS[at % 20] + "z" * (at % 3) for at, word in enumerate(ordered)}
    return table_of([others[word] for word in listed(table)])


def moved(table, at, spot):
    """A table like another one but for the order of one word: so many of the other words come before it."""
    words = listed(table)
    others = sorted(word for word in words if word != words[at])
    order = [*others[:spot], words[at], *others[spot:]]
    letters = {word: LETTERS[place // 20] + LETTERS[place % 20] for place, word in enumerate(order)}
    return table_of([letters[word] for word in words])


def exchanged(table, one, other):
    """The table with two of its words exchanged."""
    words = listed(table)
    words[one], words[other] = words[other], words[one]
    return table_of(words)


def some_numbers(table, chance):
    """Numbers whose names show the order of all words, and others."""
    top = limit(table)
    parts = [*range(20), *range(20, 100, 10)]
    worth = 1000
    while worth < top:
        parts.append(worth)
        worth *= 1000
    numbers = [*parts, 100, *[100 + part for part in parts if 0 < part < 100],
               *[100 * part for part in parts if part > 99],
               *[20 * part for part in parts if part > 99], *[21 * part for part in parts if part > 99], 1121, 20001]
    numbers += [chance.randrange(top) for _ in range(200)]
    return [number for number in numbers if number < top]


class Orders(Checks, unittest.TestCase):
    def assert_same(self, first, second):
        for one, other in ((first, second), (second, first)):
            self.assertIs(self.call(same_order, one, other), True)
            self.assertIs(self.call(same_order, first=one, second=other), True)
            self.assertIsNone(self.call(parting_numbers, one, other))
            self.assertIsNone(self.call(parting_numbers, first=one, second=other))

    def assert_parted(self, first, second):
        for one, other in ((first, second), (second, first)):
            self.assertIs(self.call(same_order, one, other), False)
            self.assertIs(self.call(same_order, first=one, second=other), False)
            told = self.call(parting_numbers, one, other)
            self.assertIs(type(told), tuple)
            self.assertEqual(len(told), 2)
            for number in told:
                self.assertTrue(0 <= number < limit(one))
            self.assertLess(name(one, told[0]), name(one, told[1]))
            self.assertLess(name(other, told[1]), name(other, told[0]))
            named = parting_numbers(first=one, second=other)
            self.assertLess(name(one, named[0]), name(one, named[1]))
            self.assertLess(name(other, named[1]), name(other, named[0]))

    def assert_as_sorted(self, first, second, numbers):
        """The orders are the same if sorting so many numbers that show all words tells so."""
        if sorted_by_name(first, numbers) == sorted_by_name(second, numbers):
            self.assert_same(first, second)
        else:
            self.assert_parted(first, second)

    def test_a_table_and_itself(self):
        for table in [*valid_tables(), *small_tables(), *great_tables(), wide_table(2), wide_table(6)]:
            self.assert_same(table, table)
            self.assert_same(table, deepcopy(table))

    def test_other_words_in_the_same_order(self):
        for table in [*valid_tables(), *small_tables(), *great_tables(), nested_table(2), mixed_table(6, 51)]:
            self.assert_same(table, renamed(table))

    def test_against_sorting_all_numbers_without_scale_words(self):
        chance = Random(52)
        told = {True: 0, False: 0}
        for seed in range(40):
            table = mixed_table(0, seed)
            spots = [chance.randrange(29) for _ in range(3)]
            for other in (exchanged(table, *chance.sample(range(29), 2)), moved(table, HUNDRED, spots[0]),
                          moved(table, 0, spots[1]), moved(table, chance.randrange(29), spots[2]),
                          mixed_table(0, seed + 1)):
                self.assert_as_sorted(table, other, range(1000))
                told[same_order(table, other)] += 1
        self.assertGreater(min(told.values()), 20)

    def test_against_sorting_with_scale_words(self):
        chance = Random(53)
        for scales in (1, 2, 6, 20):
            told = {True: 0, False: 0}
            for seed in range(25):
                table = mixed_table(scales, seed)
                many = 29 + scales
                numbers = some_numbers(table, chance)
                for other in (exchanged(table, *chance.sample(range(many), 2)), moved(table, 0, chance.randrange(many)),
                              moved(table, HUNDRED, chance.randrange(many)),
                              moved(table, chance.randrange(many), chance.randrange(many))):
                    self.assert_as_sorted(table, other, numbers)
                    told[same_order(table, other)] += 1
            self.assertGreater(min(told.values()), 2)

    def test_two_words_exchanged(self):
        for scales in (0, 1, 2, 6, 20):
            for table in (wide_table(scales), nested_table(scales), mixed_table(scales, 54)):
                for one, other in ((0, 1), (1, 2), (9, 10), (11, 19), (0, 20), (5, 20), (13, 27), (20, 27)):
                    self.assert_parted(table, exchanged(table, one, other))
                numbers = some_numbers(table, Random(55))
                for one in (0, 1, 12, 25):
                    self.assert_as_sorted(table, exchanged(table, one, HUNDRED), numbers)
                for scale in range(29, 29 + scales):
                    self.assert_parted(table, exchanged(table, 7, scale))
                    self.assert_parted(table, exchanged(table, 23, scale))
                    self.assert_as_sorted(table, exchanged(table, HUNDRED, scale), numbers)
                    if scale > 29:
                        self.assert_parted(table, exchanged(table, 29, scale))

    def test_two_neighbours_exchanged(self):
        for scales in (0, 1, 2, 6, 20):
            for table in (english(min(scales, 10)), wide_table(scales), nested_table(scales)):
                order = sorted(listed(table))
                for at in range(1, len(order)):
                    one, other = (listed(table).index(word) for word in order[at - 1:at + 1])
                    one, other = sorted([one, other])
                    # No name shows the order of hundred and a word but for scale words, or of those and the word of 0.
                    hidden = (other == HUNDRED) or (one == 0 and other > HUNDRED)
                    with self.subTest(scales=scales, one=one, other=other):
                        if hidden:
                            self.assert_same(table, exchanged(table, one, other))
                        else:
                            self.assert_parted(table, exchanged(table, one, other))

    def test_the_word_hundred_elsewhere(self):
        for scales in (0, 1, 2, 6, 20):
            table = wide_table(scales)
            words = listed(table)
            others = sorted(words[:HUNDRED] + words[29:])
            for spot in range(len(others) + 1):
                there = [word for word in others[:spot] if word in table[3]]
                before = [word for word in table[3] if word < "hundred"]
                other = moved(table, HUNDRED, spot)
                with self.subTest(scales=scales, spot=spot):
                    if sorted(there) == sorted(before):
                        self.assert_same(table, other)
                    else:
                        self.assert_parted(table, other)

    def test_the_word_of_zero_elsewhere(self):
        for scales in (0, 1, 2, 6, 20):
            table = wide_table(scales)
            words = listed(table)
            others = sorted(words[1:])
            for spot in range(len(others) + 1):
                # "zero" is the last one of the words.
                behind = [word for word in others[spot:] if word in table[0] or word in table[1]]
                with self.subTest(scales=scales, spot=spot):
                    if behind:
                        self.assert_parted(table, moved(table, 0, spot))
                    else:
                        self.assert_same(table, moved(table, 0, spot))

    def test_words_that_begin_one_another(self):
        first = english(1)
        for one, other in (("thousand", "thousandth"), ("t", "ty"), ("seventh", "sevent"), ("o", "on")):
            for word in (one, other):
                second = (*first[:3], [word])
                self.assert_as_sorted(first, second, some_numbers(first, Random(56)))
        self.assert_same((*first[:3], ["sevent"]), (*first[:3], ["seventee"]))
        self.assert_parted((*first[:3], ["seve"]), (*first[:3], ["sevenz"]))
        self.assert_parted((*first[:3], ["seve"]), (*first[:3], ["sevent"]))

    def test_numbers_that_part(self):
        ones, tens, hundred, scales = english(2)
        first = english(2)
        for second in ((ones, tens, "zzz", scales), (ones, tens, hundred, ["aaa", "million"]),
                       (ones, tens, hundred, ["millions", "million"]), (["aaa", *ones[1:]], tens, hundred, scales),
                       ([*ones[:7], "aaa", *ones[8:]], tens, hundred, scales),
                       (ones, ["aaa", *tens[1:]], hundred, scales)):
            self.assert_parted(first, second)

    def test_tables_that_differ_in_much(self):
        for scales in (0, 1, 2, 6, 20):
            for seed in range(10):
                self.assert_parted(mixed_table(scales, seed), mixed_table(scales, seed + 100))

    def test_odd_table(self):
        ones, tens, hundred, scales = odd_table()
        self.assert_same(odd_table(), (ones, tens, "xx", scales))
        self.assert_same(odd_table(), (ones, tens, "b" * 5, scales))
        self.assert_parted(odd_table(), (ones, tens, "zzz", scales))


class Errors(Checks, unittest.TestCase):
    def test_table_check_of_the_first_table(self):
        for action in BOTH:
            # The second one is wrong in any way, or right.
            for other in (english(1), english(2), wrong_lengths()[0], wrong_words()[0][0]):
                self.assert_table_check_of_first(action, other)

    def assert_table_check_of_first(self, action, other):
        cases = [(table, None) for table in wrong_lengths()] + wrong_words()
        for table, value in cases:
            self.assert_raises_exactly(InvalidTable, value, action, table, other)
            self.assert_raises_exactly(InvalidTable, value, action, first=table, second=other)

    def test_table_check_of_the_second_table(self):
        cases = [(table, None) for table in wrong_lengths()] + wrong_words()
        for action in BOTH:
            for first in (english(1), english(2), english(5)):
                for table, value in cases:
                    self.assert_raises_exactly(InvalidTable, value, action, first, table)
                    self.assert_raises_exactly(InvalidTable, value, action, first=first, second=table)

    def test_first_wrong_word_of_the_first_wrong_table(self):
        ones, tens, hundred, scales = english(2)
        first = (ones, tens, "Wrong", scales)
        second = (["Other", *ones[1:]], tens, hundred, scales)
        for action in BOTH:
            self.assert_raises_exactly(InvalidTable, "Wrong", action, first, second)
            self.assert_raises_exactly(InvalidTable, "Other", action, second, first)
            self.assert_raises_exactly(InvalidTable, "Other", action, english(1), second)

    def test_unlike_numbers_of_scale_words(self):
        for action in BOTH:
            for first, second in ((0, 1), (1, 0), (2, 6), (20, 19), (0, 20), (20, 0)):
                self.assert_raises_exactly(InvalidTable, None, action, wide_table(first), wide_table(second))
                named = {"first": wide_table(first), "second": wide_table(second)}
                self.assert_raises_exactly(InvalidTable, None, action, **named)
                self.assert_raises_exactly(InvalidTable, None, action, nested_table(first), mixed_table(second, 1))


class Examples(unittest.TestCase):
    def test_examples_of_the_document(self):
        ones, tens, _, scales = english(1)
        first = (ones, tens, "aaa", scales)
        second = (ones, tens, "zzz", scales)
        told = [same_order(english(1), first), same_order(english(1), second), parting_numbers(english(1), first)]
        self.assertEqual(told, [True, False, None])


if __name__ == "__main__":
    unittest.main()
