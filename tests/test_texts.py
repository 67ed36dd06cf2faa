import unittest
from copy import deepcopy

from samples import Checks, LETTERS, great_tables, mixed_table, odd_table, small_tables, valid_tables, wide_table
from wordorder.errors import Unreadable
from wordorder.readings import read_table
from wordorder.tables import english, limit
from wordorder.texts import show_table

ENGLISH = ("zero one two three four five six seven eight nine ten eleven twelve thirteen fourteen fifteen sixteen "
           "seventeen eighteen nineteen twenty thirty forty fifty sixty seventy eighty ninety hundred")


def longest_table():
    """A table of sixty words in all, with as many letters as words may have."""
    words = [first + second + "z" * 18 for first in "abc" for second in LETTERS]
    return (words[:20], words[20:28], words[28], words[29:])


def tables():
    return [*valid_tables(), *small_tables(), *great_tables(), odd_table(), wide_table(2), mixed_table(6, 81),
            longest_table()]


class ShowTable(Checks, unittest.TestCase):
    def test_english(self):
        for scales, behind in ((0, ""), (1, " thousand"), (3, " thousand million billion")):
            self.assertEqual(self.call(show_table, english(scales)), ENGLISH + behind)
            self.assertEqual(self.call(show_table, table=english(scales)), ENGLISH + behind)

    def test_words_in_the_order_of_the_tuple(self):
        for table in tables():
            told = self.call(show_table, table)
            self.assertEqual(told.split(" "), [*table[0], *table[1], table[2], *table[3]])


class ReadTable(Checks, unittest.TestCase):
    def assert_unreadable(self, text):
        with self.subTest(text=text):
            self.assert_raises_exactly(Unreadable, text, read_table, text)
            self.assert_raises_exactly(Unreadable, text, read_table, text=text)

    def test_each_leads_back_from_the_other(self):
        for table in tables():
            text = show_table(table)
            told = self.call(read_table, text)
            self.assertEqual(told, table)
            self.assertEqual(read_table(text=text), table)
            self.assertEqual(show_table(told), text)
            self.assertEqual([type(part) for part in told], [list, list, str, list])
            self.assertIs(type(told), tuple)
            self.assertEqual(limit(told), limit(table))

    def test_every_number_of_scale_words(self):
        words = ENGLISH.split(" ") + ["scale" + first + second for first in "ab" for second in LETTERS]
        for many in range(29, 61):
            table = (words[:20], words[20:28], words[28], words[29:many])
            self.assertEqual(read_table(" ".join(words[:many])), table)

    def test_fewer_words(self):
        words = ENGLISH.split(" ")
        for many in range(29):
            self.assert_unreadable(" ".join(words[:many]))
            self.assert_unreadable(" ".join(words[1:many]))
        for text in ("", " ", "  ", "one", "one two", " " * 28, " " * 60, "a" * 2000):
            self.assert_unreadable(text)

    def test_a_word_left_out(self):
        words = show_table(english(2)).split(" ")
        for at in range(len(words)):
            others = words[:at] + words[at + 1:]
            # What is left is a table of other words for other numbers.
            self.assertEqual(read_table(" ".join(others)), (others[:20], others[20:28], others[28], others[29:]))
        words = show_table(english(0)).split(" ")
        for at in range(len(words)):
            self.assert_unreadable(" ".join(words[:at] + words[at + 1:]))

    def test_a_word_put_in(self):
        words = show_table(english(1)).split(" ")
        for at in range(len(words) + 1):
            others = words[:at] + ["more"] + words[at:]
            self.assertEqual(read_table(" ".join(others)), (others[:20], others[20:28], others[28], others[29:]))
            for wrong in ("", "More", "m0re", "more!", "a" * 21, words[0], words[28], words[at % 30]):
                self.assert_unreadable(" ".join(words[:at] + [wrong] + words[at:]))

    def test_a_word_written_twice(self):
        for scales in (0, 1, 3):
            words = show_table(english(scales)).split(" ")
            for at in range(len(words)):
                for other in (0, 7, 19, 20, 27, 28, len(words) - 1):
                    if other != at:
                        self.assert_unreadable(" ".join([*words[:at], words[other], *words[at + 1:]]))

    def test_words_that_are_none(self):
        words = show_table(english(2)).split(" ")
        for at in range(len(words)):
            for wrong in (words[at].capitalize(), words[at].upper(), words[at] + "1", "7", words[at][:2] + "-",
                          "a" * 21,
                          "~", "_", words[at] + "\n", "a\tb", words[at] + "."):
                self.assert_unreadable(" ".join([*words[:at], wrong, *words[at + 1:]]))
            longest = " ".join([*words[:at], "a" * 20, *words[at + 1:]])
            self.assertEqual(show_table(read_table(longest)), longest)

    def test_spaces(self):
        for scales in (0, 1, 5):
            text = show_table(english(scales))
            for wrong in (" " + text, text + " ", " " + text + " ", "  " + text, text + "  ", text.replace(" ", "  "),
                          text.replace(" ", "  ", 1), text.replace(" ", ""), text.replace(" ", "", 1) + " ",
                          text.replace(" hundred", "  hundred"), text.replace("ty ", "ty  "), text.replace(" ", "\n")):
                self.assert_unreadable(wrong)

    def test_new_table_each_time(self):
        text = show_table(english(2))
        first, second = read_table(text), read_table(text)
        for part in (0, 1, 3):
            self.assertIsNot(first[part], second[part])
        kept = deepcopy(second)
        first[0][3] = "changed"
        first[1].clear()
        first[3].append("more")
        self.assertEqual((second, read_table(text)), (kept, kept))


class Examples(Checks, unittest.TestCase):
    def test_examples_of_the_document(self):
        self.assertEqual(show_table(english(1))[-30:], "eighty ninety hundred thousand")
        self.assert_raises_exactly(Unreadable, "one two", read_table, "one two")


if __name__ == "__main__":
    unittest.main()
