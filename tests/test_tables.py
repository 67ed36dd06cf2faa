import unittest
from copy import deepcopy

from samples import Checks, changed, odd_table, of_lengths, valid_tables, wide_table
from wordorder.errors import InvalidNumber
from wordorder.tables import english, limit

ONES = ("zero one two three four five six seven eight nine ten eleven twelve thirteen fourteen fifteen sixteen "
        "seventeen eighteen nineteen").split()
TENS = "twenty thirty forty fifty sixty seventy eighty ninety".split()
SCALES = ("thousand million billion trillion quadrillion quintillion sextillion septillion octillion "
          "nonillion").split()


class English(Checks, unittest.TestCase):
    def test_every_number_of_scale_words(self):
        for scales in range(11):
            with self.subTest(scales=scales):
                self.assertEqual(english(scales), (ONES, TENS, "hundred", SCALES[:scales]))
                self.assertEqual(english(scales=scales), english(scales))

    def test_kinds_of_the_parts(self):
        table = english(3)
        self.assertEqual([type(part) for part in table], [list, list, str, list])
        self.assertIs(type(table), tuple)

    def test_new_lists_each_time(self):
        for scales in (0, 3, 10):
            first, second = english(scales), english(scales)
            for part in (0, 1, 3):
                self.assertIsNot(first[part], second[part])
            first[0][1] = "changed"
            first[1].clear()
            first[3].append("more")
            self.assertEqual(second, (ONES, TENS, "hundred", SCALES[:scales]))
            self.assertEqual(english(scales), second)

    def test_wrong_numbers(self):
        for scales in (-1, 11, -2, 12, 20, -10 ** 70, 10 ** 70):
            with self.subTest(scales=scales):
                self.assert_raises_exactly(InvalidNumber, scales, english, scales)
                self.assert_raises_exactly(InvalidNumber, scales, english, scales=scales)


class Limit(Checks, unittest.TestCase):
    def test_number_of_scale_words(self):
        for many in range(21):
            with self.subTest(many=many):
                self.assertEqual(limit(wide_table(many)), 10 ** (3 * many + 3))
                self.assertEqual(limit(table=wide_table(many)), 10 ** (3 * many + 3))

    def test_english(self):
        self.assertEqual([limit(english(0)), limit(english(1)), limit(english(2))], [1000, 1000000, 1000000000])

    def test_more_scale_words_than_the_bound(self):
        table = wide_table()
        table[3].append("onemore")
        self.assertEqual(limit(table), 10 ** 66)

    def test_table_stays_the_same(self):
        for table in valid_tables():
            before = deepcopy(table)
            limit(table)
            self.assertEqual(table, before)

    def test_table_check(self):
        self.assert_table_check(limit)

    def test_valid_tables_at_the_edges(self):
        self.assertEqual(limit(odd_table()), 10 ** 9)
        self.assertEqual(limit(of_lengths(20, 8)), 10 ** 6)
        for part, at in ((0, 0), (0, 19), (1, 7), (2, 0), (3, 0), (3, 1)):
            for word in ("a", "z", "az" * 10):
                with self.subTest(part=part, word=word):
                    self.assertEqual(limit(changed(part, at, word)), 10 ** 9)


if __name__ == "__main__":
    unittest.main()
