import unittest
from copy import deepcopy
from itertools import product

from samples import Checks, odd_table, valid_tables, wide_table
from wordorder.errors import InvalidNumber, Unreadable
from wordorder.names import name, number_of, words_of
from wordorder.tables import english, limit

NAMES = {
    0: "zero", 1: "one", 2: "two", 3: "three", 4: "four", 5: "five", 6: "six", 7: "seven", 8: "eight", 9: "nine",
    10: "ten", 11: "eleven", 12: "twelve", 13: "thirteen", 14: "fourteen", 15: "fifteen", 16: "sixteen",
    17: "seventeen", 18: "eighteen", 19: "nineteen",
    20: "twenty", 30: "thirty", 40: "forty", 50: "fifty", 60: "sixty", 70: "seventy", 80: "eighty", 90: "ninety",
    21: "twenty one", 29: "twenty nine", 35: "thirty five", 99: "ninety nine",
    100: "one hundred", 200: "two hundred", 900: "nine hundred",
    101: "one hundred one", 110: "one hundred ten", 112: "one hundred twelve", 119: "one hundred nineteen",
    120: "one hundred twenty", 121: "one hundred twenty one", 345: "three hundred forty five",
    990: "nine hundred ninety", 999: "nine hundred ninety nine",
    1000: "one thousand", 1001: "one thousand one", 1100: "one thousand one hundred", 2013: "two thousand thirteen",
    10000: "ten thousand", 12012: "twelve thousand twelve", 20000: "twenty thousand", 80005: "eighty thousand five",
    21021: "twenty one thousand twenty one", 100000: "one hundred thousand",
    100100: "one hundred thousand one hundred", 999000: "nine hundred ninety nine thousand",
    999999: "nine hundred ninety nine thousand nine hundred ninety nine",
    1000000: "one million", 1000001: "one million one", 1000212: "one million two hundred twelve",
    1001000: "one million one thousand", 100000020: "one hundred million twenty",
    120003400: "one hundred twenty million three thousand four hundred",
    8000000008: "eight billion eight", 8008000000: "eight billion eight million",
    8000008000: "eight billion eight thousand", 10 ** 12 - 1:
        "nine hundred ninety nine billion nine hundred ninety nine million "
        "nine hundred ninety nine thousand nine hundred ninety nine",
}


def highest_name(table):
    """The name of the limit less 1 of a table with the English words below the scale words."""
    part = "nine hundred ninety nine"
    return " ".join([*[part + " " + scale for scale in reversed(table[3])], part])


def some_numbers(table):
    """Numbers of a table: small ones, each power of ten and its neighbours, and the last ones."""
    top = limit(table)
    numbers = list(range(0, 125)) + [200, 310, 419, 555, 990, 999]
    power = 1
    while power < top:
        numbers += [power - 1, power, power + 1, power * 2, power * 7 + 7, power * 9 + 20]
        power *= 10
    numbers += [top // 3, top // 7, top // 11 * 10, top - 1, top - 2, top - 1000]
    return sorted({number for number in numbers if 0 <= number < top})


def walked(*args, **named):
    return list(words_of(*args, **named))


class Name(Checks, unittest.TestCase):
    def test_english(self):
        table = english(3)
        for number, text in NAMES.items():
            with self.subTest(number=number):
                self.assertEqual(name(table, number), text)
                self.assertEqual(name(table=table, number=number), text)

    def test_limit_less_one(self):
        for table in (english(0), english(1), english(10), wide_table(20)):
            self.assertEqual(name(table, limit(table) - 1), highest_name(table))

    def test_each_scale_word(self):
        for table in (english(10), wide_table(20)):
            for at, scale in enumerate(table[3]):
                self.assertEqual(name(table, 1000 ** (at + 1)), "one " + scale)
                self.assertEqual(name(table, 315 * 1000 ** (at + 1) + 4), "three hundred fifteen " + scale + " four")

    def test_words_come_from_the_table(self):
        table = odd_table()
        self.assertEqual(name(table, 0), "t")
        self.assertEqual(name(table, 19), "a")
        self.assertEqual(name(table, 20), "a" * 20)
        self.assertEqual(name(table, 93), "h" * 20 + " q")
        self.assertEqual(name(table, 219000512), "r x a z o x h")

    def test_number_check(self):
        for table in valid_tables():
            for number in (-1, limit(table), limit(table) + 1, -10 ** 70, 10 ** 70):
                with self.subTest(number=number):
                    self.assert_raises_exactly(InvalidNumber, number, name, table, number)
                    self.assert_raises_exactly(InvalidNumber, number, name, table=table, number=number)

    def test_table_check_comes_first(self):
        self.assert_table_check(name, number=1)
        self.assert_table_check(name, number=-1)
        self.assert_table_check(name, number=10 ** 70)

    def test_table_stays_the_same(self):
        for table in valid_tables():
            before = deepcopy(table)
            for number in some_numbers(table):
                name(table, number)
            self.assertEqual(table, before)

    def test_alphabetical_order_is_that_of_the_lists_of_words(self):
        for table in (english(0), english(2), odd_table(), wide_table(20)):
            numbers = some_numbers(table)
            by_name = sorted(numbers, key=lambda number: name(table, number))
            by_words = sorted(numbers, key=lambda number: list(words_of(table, number)))
            self.assertEqual(by_name, by_words)

    def test_names_are_different(self):
        table = english(0)
        self.assertEqual(len({name(table, number) for number in range(1000)}), 1000)


class WordsOf(Checks, unittest.TestCase):
    def test_english(self):
        table = english(3)
        for number, text in NAMES.items():
            with self.subTest(number=number):
                self.assertEqual(list(words_of(table, number)), text.split(" "))
                self.assertEqual(list(words_of(table=table, number=number)), text.split(" "))

    def test_same_words_as_the_name(self):
        for table in valid_tables():
            for number in some_numbers(table):
                self.assertEqual(" ".join(words_of(table, number)), name(table, number))

    def test_word_by_word(self):
        walk = words_of(english(1), 80005)
        self.assertEqual([next(walk), next(walk), next(walk)], ["eighty", "thousand", "five"])
        self.assertRaises(StopIteration, next, walk)

    def test_two_walks_at_the_same_time(self):
        table = english(2)
        first, second = words_of(table, 1000212), words_of(table, 345)
        told = [next(first), next(second), next(second), next(first), next(first), next(second)]
        self.assertEqual(told, ["one", "three", "hundred", "million", "two", "forty"])
        self.assertEqual((list(second), list(first)), (["five"], ["hundred", "twelve"]))

    def test_two_walks_over_the_same_number(self):
        table = english(2)
        first, second = words_of(table, 345), words_of(table, 345)
        self.assertEqual(list(zip(first, second)), [(word, word) for word in "three hundred forty five".split()])

    def test_walk_that_stops_early(self):
        table = english(2)
        for word in words_of(table, 1000212):
            if word == "million":
                break
        self.assertEqual(word, "million")
        self.assertEqual(list(words_of(table, 1000212)), "one million two hundred twelve".split())

    def test_table_changed_under_way(self):
        table = english(1)
        walk = words_of(table, 21021)
        self.assertEqual(next(walk), "twenty")
        table[0][1] = "uno"
        table[3].clear()
        self.assertEqual(list(walk), ["one", "thousand", "twenty", "one"])

    def test_number_check(self):
        for table in valid_tables():
            for number in (-1, limit(table), limit(table) + 1, -10 ** 70, 10 ** 70):
                with self.subTest(number=number):
                    self.assert_raises_exactly(InvalidNumber, number, walked, table, number)
                    self.assert_raises_exactly(InvalidNumber, number, walked, table=table, number=number)

    def test_table_check_comes_first(self):
        self.assert_table_check(walked, number=1)
        self.assert_table_check(walked, number=-1)
        self.assert_table_check(walked, number=10 ** 70)

    def test_no_word_before_an_error(self):
        wrong = (*english(1)[:3], ["thousand", "X"])
        for table, number in ((english(1), -1), (english(1), 1000000), (english(0), 1000), (wrong, 5)):
            told = []
            with self.assertRaises(ValueError):
                for word in words_of(table, number):
                    told.append(word)
            self.assertEqual(told, [])

    def test_table_stays_the_same(self):
        for table in valid_tables():
            before = deepcopy(table)
            for number in some_numbers(table):
                list(words_of(table, number))
            self.assertEqual(table, before)


class NumberOf(Checks, unittest.TestCase):
    def assert_unreadable(self, table, text):
        self.assert_raises_exactly(Unreadable, text, number_of, table, text)
        self.assert_raises_exactly(Unreadable, text, number_of, table=table, text=text)

    def test_english(self):
        table = english(3)
        for number, text in NAMES.items():
            with self.subTest(text=text):
                self.assertEqual(number_of(table, text), number)
                self.assertEqual(number_of(table=table, text=text), number)

    def test_number_again(self):
        for table in valid_tables():
            for number in some_numbers(table):
                with self.subTest(number=number):
                    self.assertEqual(number_of(table, name(table, number)), number)

    def test_limit_less_one(self):
        for table in (english(0), english(1), english(10), wide_table(20)):
            self.assertEqual(number_of(table, highest_name(table)), limit(table) - 1)

    def test_words_out_of_order(self):
        for text in ("one twenty", "hundred one", "five hundred twenty forty", "one two", "two twelve", "ten one",
                     "twenty ten", "twenty eleven", "one one hundred", "ten hundred", "twenty hundred",
                     "twenty one hundred", "twelve one hundred", "five one hundred", "one hundred one hundred",
                     "thousand one", "one million thousand two"):
            with self.subTest(text=text):
                self.assert_unreadable(english(2), text)

    def test_word_twice_or_left_out(self):
        for text in ("one one", "twenty twenty", "one hundred hundred", "one one thousand", "one thousand thousand",
                     "hundred", "hundred five", "thousand", "million", "thousand five", "one hundred million hundred",
                     "hundred thousand", "hundred hundred", "six hundred seven hundred", "eleven eleven"):
            with self.subTest(text=text):
                self.assert_unreadable(english(2), text)

    def test_wrong_scale_words(self):
        for text in ("one million thousand", "one thousand million", "one thousand one million",
                     "one thousand one thousand", "one million one million", "one million two million three",
                     "thousand million", "one thousand one hundred thousand", "five million thousand six",
                     "one billion"):
            with self.subTest(text=text):
                self.assert_unreadable(english(2), text)

    def test_unknown_words(self):
        for text in ("", "x", "One", "ONE", "on", "ones", "one hundred and one", "one x", "twenty-one", "1", "100",
                     "one thousand, one", "one.", "minus one", "one hundred x", "two\n", "one\ttwo", "~"):
            with self.subTest(text=text):
                self.assert_unreadable(english(2), text)
        self.assert_unreadable(english(0), "one thousand")
        self.assert_unreadable(english(1), "one million")

    def test_spaces(self):
        for text in (" ", "  ", " one", "one ", "twenty  one", "twenty one ", " twenty one", "one  hundred",
                     "one thousand  one", "twenty\none", "twenty\tone"):
            with self.subTest(text=text):
                self.assert_unreadable(english(2), text)

    def test_words_run_together(self):
        for text in ("twentyone", "onehundred", "onehundred one", "one hundredone", "onethousand", "zeroone"):
            with self.subTest(text=text):
                self.assert_unreadable(english(2), text)

    def test_word_of_zero_in_a_longer_name(self):
        for text in ("zero zero", "twenty zero", "zero one", "one zero", "one hundred zero", "zero hundred",
                     "zero hundred one", "zero thousand", "zero thousand one", "one thousand zero",
                     "one million zero thousand", "one million zero thousand one", "zero million"):
            with self.subTest(text=text):
                self.assert_unreadable(english(2), text)

    def test_sums_beyond_the_limit(self):
        for table in (english(0), english(1), english(2), wide_table(20)):
            highest = highest_name(table)
            for text in (highest + " one", highest + " " + highest, "ten hundred", "ninety hundred",
                         "ninety ninety ninety ninety hundred ninety nineteen"):
                self.assert_unreadable(table, text)
        self.assert_unreadable(english(1), "nine hundred ninety nine thousand ten hundred")
        self.assert_unreadable(english(1), "ten hundred thousand")
        self.assert_unreadable(english(1), "nine hundred ninety ten thousand")

    def test_long_texts(self):
        table = odd_table()
        self.assert_unreadable(table, "a" * 2000)
        self.assert_unreadable(table, " " * 2000)
        for words in ("x ", "s x ", "a ", "z ", "s z ", "a x z "):
            self.assert_unreadable(table, (words * 1000)[:1999])
        wide = wide_table(20)
        self.assert_unreadable(wide, ("hundred " * 250)[:-1])
        self.assert_unreadable(wide, ("nine scalet " * 160)[:-1])

    def test_every_short_text_without_scale_words(self):
        table = english(0)
        numbers = {name(table, number): number for number in range(1000)}
        words = [*table[0], *table[1], table[2]]
        self.assert_reads(table, words, 3, numbers)

    def test_every_short_text_of_a_few_words(self):
        table = english(2)
        groups = (0, 1, 10, 20, 21, 100, 101, 110, 120, 121)
        numbers = {}
        for high, middle, low in product(groups, repeat=3):
            number = high * 1000000 + middle * 1000 + low
            numbers[name(table, number)] = number
        self.assert_reads(table, ["zero", "one", "ten", "twenty", "hundred", "thousand", "million"], 5, numbers)

    def assert_reads(self, table, words, most, numbers):
        """Of all texts of up to so many words, those that are names are read, and no others."""
        for many in range(1, most + 1):
            for picked in product(words, repeat=many):
                text = " ".join(picked)
                try:
                    told = number_of(table, text)
                except Unreadable as error:
                    self.assertEqual(error.value, text)
                    told = None
                self.assertEqual(told, numbers.get(text), text)

    def test_table_check_comes_first(self):
        self.assert_table_check(number_of, text="one")
        self.assert_table_check(number_of, text="")
        self.assert_table_check(number_of, text="one two")

    def test_table_stays_the_same(self):
        for table in valid_tables():
            before = deepcopy(table)
            for number in some_numbers(table):
                number_of(table, name(table, number))
            self.assertEqual(table, before)


class Examples(Checks, unittest.TestCase):
    def test_examples_of_the_document(self):
        table = english(2)
        told = [name(table, 1000212), number_of(table, "eighty thousand five"), limit(table), name(table, 0)]
        self.assertEqual(told, ["one million two hundred twelve", 80005, 1000000000, "zero"])
        self.assert_raises_exactly(Unreadable, "one two", number_of, english(1), "one two")


if __name__ == "__main__":
    unittest.main()
