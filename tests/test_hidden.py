import unittest
from copy import deepcopy
from random import Random

from samples import (
    Checks, LETTERS, great_tables, mixed_table, nested_table, numbers_around, odd_table, small_tables, valid_tables,
    wide_table, wrong_lengths, wrong_words,
)
from wordorder.errors import InvalidNumber, InvalidTable, OrderError
from wordorder.hidden import HiddenTable, find
from wordorder.names import name
from wordorder.places import number_at
from wordorder.tables import english, limit

MOST_QUESTIONS = 500
PLAIN = [*range(20), *range(20, 100, 10)]


def ordered_table(order):
    """A table whose words are in the order of these numbers, of which 100 stands for the word hundred."""
    words = {number: LETTERS[at // 20] + LETTERS[at % 20] + "y" * (at % 4) for at, number in enumerate(order)}
    scales = sorted(number for number in order if number > 100)
    return ([words[number] for number in range(20)], [words[number] for number in range(20, 100, 10)], words[100],
            [words[number] for number in scales])


def scale_numbers(scales):
    return [10 ** (3 * at) for at in range(1, scales + 1)]


def words_by_number(table):
    """A dict from each number with a word of its own, but for hundred, to its word."""
    words = dict(zip(PLAIN, [*table[0], *table[1]]))
    words.update(zip(scale_numbers(len(table[3])), table[3]))
    return words


def some_pairs(table, chance):
    top = limit(table)
    numbers = [0, 1, 9, 10, 20, 99, 100, 101, 999, top // 3, top // 7, top // 1000, top - 2, top - 1]
    numbers += [chance.randrange(top) for _ in range(10)]
    return [(one, other) for one in numbers for other in numbers]


class Hidden(Checks, unittest.TestCase):
    def test_comes_before_against_the_names(self):
        chance = Random(61)
        for table in [*valid_tables(), *small_tables(), *great_tables()]:
            hidden = HiddenTable(table)
            for one, other in some_pairs(table, chance):
                told = hidden.comes_before(one, other)
                self.assertIs(told, name(table, one) < name(table, other))

    def test_english(self):
        hidden = HiddenTable(table=english(2))
        for first, second, told in ((8, 18, True), (18, 8, False), (0, 1, False), (1, 0, True), (8, 8, False),
                                    (0, 0, False), (8, 8000000, True), (8, 800, True), (999999999, 0, True),
                                    (999999999, 999999999, False), (999999998, 999999999, True), (100, 1000, True)):
            with self.subTest(first=first, second=second):
                self.assertIs(self.call(hidden.comes_before, first, second), told)
                self.assertIs(self.call(hidden.comes_before, first=first, second=second), told)

    def test_neighbours_in_alphabetical_order(self):
        for table in (english(5), *great_tables()):
            hidden = HiddenTable(table)
            for spot in (0, 1, 1000, limit(table) // 3, limit(table) - 2):
                one, other = number_at(table, spot), number_at(table, spot + 1)
                self.assertIs(hidden.comes_before(one, other), True)
                self.assertIs(hidden.comes_before(other, one), False)
                self.assertIs(hidden.comes_before(one, one), False)

    def test_scales(self):
        for scales in (0, 1, 2, 6, 20):
            self.assertEqual(HiddenTable(wide_table(scales)).scales, scales)
            self.assertEqual(HiddenTable(nested_table(scales)).scales, scales)

    def test_questions(self):
        hidden = HiddenTable(english(1))
        self.assertEqual(hidden.questions, 0)
        for many in range(1, 60):
            hidden.comes_before(many, 2 * many % 7)
            self.assertEqual((hidden.questions, hidden.scales), (many, 1))
        other = HiddenTable(english(1))
        self.assertEqual((hidden.questions, other.questions), (59, 0))

    def test_errors_are_no_answers(self):
        hidden = HiddenTable(english(1))
        hidden.comes_before(1, 2)
        for first, second in ((-1, 0), (0, -1), (10 ** 6, 0), (0, 10 ** 6), (-1, -2)):
            with self.assertRaises(InvalidNumber):
                hidden.comes_before(first, second)
            self.assertEqual(hidden.questions, 1)
        self.assertIs(hidden.comes_before(2, 1), False)
        self.assertEqual(hidden.questions, 2)

    def test_number_checks(self):
        for table in valid_tables():
            hidden = HiddenTable(table)
            top = limit(table)
            for wrong in numbers_around(top):
                for right in (0, 1, top - 1):
                    for first, second in ((wrong, right), (right, wrong)):
                        self.assert_raises_exactly(InvalidNumber, wrong, hidden.comes_before, first, second)
                        named = {"first": first, "second": second}
                        self.assert_raises_exactly(InvalidNumber, wrong, hidden.comes_before, **named)
                for other in numbers_around(top):
                    self.assert_raises_exactly(InvalidNumber, wrong, hidden.comes_before, wrong, other)
                    self.assert_raises_exactly(InvalidNumber, wrong, hidden.comes_before, first=wrong, second=other)
            self.assertEqual(hidden.questions, 0)

    def test_table_check(self):
        self.assert_table_check(HiddenTable)

    def test_table_changed_afterwards(self):
        table = english(2)
        hidden = HiddenTable(table)
        table[0][8] = "zzz"
        table[1].clear()
        table[3].append("more")
        self.assertEqual(hidden.scales, 2)
        self.assertIs(hidden.comes_before(8, 18), True)
        self.assertIs(hidden.comes_before(20, 2), True)
        with self.assertRaises(InvalidNumber):
            hidden.comes_before(0, 10 ** 9)
        order, hundreds = find(hidden)
        self.assertEqual((order[:3], order[-3:], hundreds), ([8, 18, 80], [20, 2, 0], 0))

    def test_table_stays_the_same(self):
        for table in valid_tables():
            before = deepcopy(table)
            hidden = HiddenTable(table)
            hidden.comes_before(0, 999)
            find(hidden)
            self.assertEqual(table, before)

    def test_properties_are_not_assigned(self):
        hidden = HiddenTable(english(1))
        for title in ("scales", "questions"):
            with self.assertRaises(AttributeError):
                setattr(hidden, title, 7)


class Find(Checks, unittest.TestCase):
    def assert_found(self, table):
        """All is found, but for the place of 0 among scale words, with no more questions than allowed."""
        hidden = HiddenTable(table)
        order, hundreds = find(hidden)
        self.assertLessEqual(hidden.questions, MOST_QUESTIONS)
        words = words_by_number(table)
        self.assertEqual(sorted(order), sorted(words))
        without_zero = [number for number in order if number != 0]
        self.assertEqual(without_zero, sorted(without_zero, key=words.get))
        plain = [number for number in order if number < 100]
        self.assertEqual(plain, sorted(plain, key=words.get))
        self.assertEqual(hundreds, len([word for word in table[3] if word < table[2]]))
        self.assertIs(type(order), list)
        self.assertTrue(all(type(number) is int for number in [*order, hundreds]))
        if not table[3]:
            self.assertEqual(order, sorted(words, key=words.get))
        return order, hundreds

    def test_usual_tables(self):
        for scales in range(11):
            order, _ = self.assert_found(english(scales))
            words = words_by_number(english(scales))
            # "zero" is the last word of all, and no scale word stands beside it.
            self.assertEqual(order, sorted(words, key=words.get))

    def test_other_tables(self):
        for scales in (0, 1, 2, 6, 20):
            for table in (wide_table(scales), nested_table(scales), *[mixed_table(scales, seed) for seed in range(30)]):
                self.assert_found(table)
        for table in [odd_table(), *small_tables(), *great_tables()]:
            self.assert_found(table)

    def test_words_in_any_order(self):
        chance = Random(62)
        for scales in (0, 1, 2, 6, 20):
            numbers = [*PLAIN, 100, *scale_numbers(scales)]
            for _ in range(25):
                chance.shuffle(numbers)
                self.assert_found(ordered_table(numbers))
            for order in (sorted(numbers), sorted(numbers, reverse=True), sorted(numbers, key=str)):
                self.assert_found(ordered_table(order))

    def test_the_word_of_zero_anywhere(self):
        for scales in (0, 1, 2, 6, 20):
            others = [*range(11, 20), 100, *scale_numbers(scales), *range(1, 11), *range(20, 100, 10)]
            Random(63).shuffle(others)
            for spot in range(len(others) + 1):
                order = [*others[:spot], 0, *others[spot:]]
                told, _ = self.assert_found(ordered_table(order))
                order.remove(100)
                at = order.index(0)
                beside = order[max(0, at - 1):at] + order[at + 1:at + 2]
                if not [number for number in beside if number > 100]:
                    # No scale word stands beside it, so its place is known.
                    self.assertEqual(told, order)

    def test_the_word_of_zero_among_scale_words(self):
        for scales in (1, 2, 6, 20):
            names = scale_numbers(scales)
            for spot in range(scales + 1):
                for ahead, behind in ((PLAIN[1:], []), ([], PLAIN[1:]), (PLAIN[1:10], PLAIN[10:])):
                    self.assert_found(ordered_table([*ahead, 100, *names[:spot], 0, *names[spot:], *behind]))
                    self.assert_found(ordered_table([*ahead, *names[:spot], 100, 0, *names[spot:], *behind]))
                    self.assert_found(ordered_table([*ahead, *names[:spot], 0, 100, *names[spot:], *behind]))

    def test_the_word_hundred_anywhere(self):
        for scales in (0, 1, 2, 6, 20):
            others = [*PLAIN[20:], *scale_numbers(scales), *PLAIN[:20]]
            Random(64).shuffle(others)
            for spot in range(len(others) + 1):
                _, hundreds = self.assert_found(ordered_table([*others[:spot], 100, *others[spot:]]))
                self.assertEqual(hundreds, len([number for number in others[:spot] if number > 100]))

    def test_the_word_hundred_between_scale_words(self):
        for scales in (1, 2, 6, 20):
            names = scale_numbers(scales)[::-1]
            for spot in range(scales + 1):
                for ahead, behind in ((PLAIN, []), ([], PLAIN), (PLAIN[:15], PLAIN[15:])):
                    _, hundreds = self.assert_found(ordered_table([*ahead, *names[:spot], 100, *names[spot:], *behind]))
                    self.assertEqual(hundreds, spot)

    def test_a_second_call(self):
        for table in [english(2), *great_tables()]:
            hidden = HiddenTable(table)
            hidden.comes_before(1, 2)
            first = find(hidden)
            asked = hidden.questions
            second = find(hidden=hidden)
            self.assertEqual(first, second)
            self.assertLessEqual(asked, 1 + MOST_QUESTIONS)
            self.assertLessEqual(hidden.questions - asked, MOST_QUESTIONS)

    def test_new_list(self):
        hidden = HiddenTable(english(2))
        first, hundreds = find(hidden)
        kept = list(first)
        first.clear()
        self.assertEqual(find(hidden), (kept, hundreds))
        self.assertIs(type(find(hidden)), tuple)


class Errors(unittest.TestCase):
    def test_no_object_of_a_wrong_table(self):
        for table, value in [(wrong_lengths()[0], None), *wrong_words()[:5]]:
            with self.assertRaises(OrderError) as held:
                HiddenTable(table)
            self.assertIs(type(held.exception), InvalidTable)
            self.assertEqual(held.exception.value, value)


class Examples(unittest.TestCase):
    def test_examples_of_the_document(self):
        order, hundreds = find(HiddenTable(english(1)))
        self.assertEqual([order[:5], order[-3:], hundreds], [[8, 18, 80, 11, 15], [20, 2, 0], 0])


if __name__ == "__main__":
    unittest.main()
