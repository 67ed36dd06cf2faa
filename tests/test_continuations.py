import unittest
from bisect import bisect_left
from collections import Counter
from copy import deepcopy

from samples import (
    Checks, great_tables, mixed_table, names_below_million, nested_table, odd_table, small_tables, valid_tables,
    wide_table,
)
from wordorder.continuations import count_names, count_prefix, following
from wordorder.errors import InvalidWords
from wordorder.names import name, words_of
from wordorder.tables import english, limit

DIGITS = "one two three four five six seven eight nine".split()
TEENS = "ten eleven twelve thirteen fourteen fifteen sixteen seventeen eighteen nineteen".split()
TENS = "twenty thirty forty fifty sixty seventy eighty ninety".split()
BELOW_HUNDRED = sorted([*DIGITS, *TEENS, *TENS])

# By a table with the scale words thousand and million: the words, and those that may come next.
NEXT_WORDS = [
    ("zero", []),
    ("one", ["hundred", "million", "thousand"]),
    ("nine", ["hundred", "million", "thousand"]),
    ("ten", ["million", "thousand"]),
    ("nineteen", ["million", "thousand"]),
    ("twenty", sorted([*DIGITS, "million", "thousand"])),
    ("ninety", sorted([*DIGITS, "million", "thousand"])),
    ("twenty one", ["million", "thousand"]),
    ("one hundred", sorted([*BELOW_HUNDRED, "million", "thousand"])),
    ("one hundred one", ["million", "thousand"]),
    ("one hundred ten", ["million", "thousand"]),
    ("one hundred twenty", sorted([*DIGITS, "million", "thousand"])),
    ("one hundred twenty one", ["million", "thousand"]),
    ("one million", BELOW_HUNDRED),
    ("nine hundred ninety nine million", BELOW_HUNDRED),
    ("one million one", ["hundred", "thousand"]),
    ("one million ten", ["thousand"]),
    ("one million twenty", sorted([*DIGITS, "thousand"])),
    ("one million twenty one", ["thousand"]),
    ("one million one hundred", sorted([*BELOW_HUNDRED, "thousand"])),
    ("one million one hundred one", ["thousand"]),
    ("one million one hundred nineteen", ["thousand"]),
    ("one million one hundred ninety", sorted([*DIGITS, "thousand"])),
    ("one thousand", BELOW_HUNDRED),
    ("one million one thousand", BELOW_HUNDRED),
    ("one thousand one", ["hundred"]),
    ("one thousand ten", []),
    ("one thousand twenty", DIGITS),
    ("one thousand twenty one", []),
    ("one thousand one hundred", BELOW_HUNDRED),
    ("one thousand one hundred one", []),
    ("one thousand one hundred twelve", []),
    ("one thousand one hundred twenty", DIGITS),
    ("one million one thousand one hundred twenty one", []),
]

# By the same table: words with which no name begins, and the index of the first one that is wrong.
WRONG_WORDS = [
    # Words that are not in the table, or are no words at all.
    (["x"], 0), (["billion"], 0), (["one", "billion"], 1), ([""], 0), (["One"], 0), ([" one"], 0), (["one "], 0),
    (["one hundred"], 0), (["twenty one"], 0), (["one", ""], 1), (["one", "hundred", "and", "one"], 2),
    (["twenty", "x", "y"], 1), (["zer"], 0), (["1"], 0), (["one", "two", "x"], 1), (["a" * 2000], 0),
    # Words out of order.
    (["hundred"], 0), (["thousand"], 0), (["million"], 0), (["hundred", "one"], 0), (["one", "twenty"], 1),
    (["one", "ten"], 1), (["ten", "one"], 1), (["ten", "hundred"], 1), (["ten", "twenty"], 1), (["twenty", "ten"], 1),
    (["twenty", "hundred"], 1), (["twenty", "thirty"], 1), (["twenty", "one", "hundred"], 2),
    (["twenty", "one", "two"], 2), (["one", "hundred", "one", "two"], 3), (["one", "hundred", "one", "hundred"], 3),
    (["one", "hundred", "one", "twenty"], 3), (["one", "hundred", "ten", "one"], 3),
    (["one", "hundred", "twenty", "ten"], 3), (["one", "hundred", "twenty", "one", "two"], 4),
    (["one", "thousand", "thousand"], 2), (["one", "thousand", "million"], 2), (["one", "million", "thousand"], 2),
    (["one", "thousand", "hundred"], 2), (["one", "thousand", "one", "million"], 3),
    (["one", "thousand", "one", "hundred", "million"], 4), (["one", "thousand", "ten", "one"], 3),
    # Words that stand there twice.
    (["one", "one"], 1), (["twenty", "twenty"], 1), (["one", "hundred", "hundred"], 2),
    (["one", "million", "million"], 2), (["one", "thousand", "one", "thousand"], 3),
    (["one", "million", "one", "million"], 3), (["ten", "ten"], 1), (["one"] * 1000, 1),
    (["one", "thousand"] * 500, 3),
    # Words behind a whole name that does not go on, and the word of 0 behind others.
    (["zero", "zero"], 1), (["zero", "one"], 1), (["zero", "hundred"], 1), (["zero", "thousand"], 1),
    (["zero", "twenty"], 1), (["zero", "ten"], 1), (["one", "zero"], 1), (["ten", "zero"], 1), (["twenty", "zero"], 1),
    (["one", "hundred", "zero"], 2), (["one", "thousand", "zero"], 2), (["one", "million", "zero"], 2),
    (["one", "thousand", "twenty", "one", "one"], 4), (["one", "thousand", "ten", "thousand"], 3),
    # Only the first wrong word counts.
    (["x", "y", "z"], 0), (["one", "one", "x"], 1), (["zero", "x"], 1), (["hundred", "x"], 0),
]


def beginnings(names):
    """All lists of words with which names begin, as tuples of words."""
    found = {}
    for text in names:
        words = text.split(" ")
        for many in range(len(words) + 1):
            found[tuple(words[:many])] = True
    return list(found)


class SortedNames:
    """All names of a table with one scale word, to be counted by their beginnings."""

    made = {}

    def __init__(self, table):
        # Sorting a million names takes a while, so each table is done once.
        if repr(table) not in self.made:
            self.made[repr(table)] = sorted(names_below_million(table))
        self.names = self.made[repr(table)]

    def beginning_with(self, text):
        first = bisect_left(self.names, text)
        return self.names[first:bisect_left(self.names, text + "~")]

    def behind(self, words):
        """The names that begin with some words and go on."""
        return self.beginning_with("".join(word + " " for word in words))


class WordsCheck(Checks):
    def assert_words_check(self, action):
        """The call raises InvalidWords for the first wrong word."""
        for words, index in WRONG_WORDS:
            with self.subTest(words=words[:6]):
                self.assert_raises_exactly(InvalidWords, index, action, english(2), words)
                self.assert_raises_exactly(InvalidWords, index, action, table=english(2), words=words)
        self.assert_raises_exactly(InvalidWords, 1, action, english(0), ["one", "thousand"])
        self.assert_raises_exactly(InvalidWords, 1, action, english(1), ["one", "million"])
        self.assert_raises_exactly(InvalidWords, 0, action, nested_table(2), ["aaac"])
        self.assert_raises_exactly(InvalidWords, 0, action, nested_table(2), ["a" * 21])
        self.assert_wrong_behind_greatest_name(action)

    def assert_wrong_behind_greatest_name(self, action):
        """No word of the table may follow the name of the limit less 1."""
        for table in great_tables():
            words = list(words_of(table, limit(table) - 1))
            for word in [*table[0], *table[1], table[2], *table[3], "unknown"]:
                self.assert_raises_exactly(InvalidWords, len(words), action, table, [*words, word])

    def assert_words_table_check(self, action):
        self.assert_table_check(action, words=[])
        self.assert_table_check(action, words=["one", "one"])


class Following(WordsCheck, unittest.TestCase):
    def test_no_words(self):
        for table in [*valid_tables(), *small_tables(), *great_tables(), english(2)]:
            nexts = sorted([*table[0], *table[1]])
            self.assertEqual(self.call(following, table, []), (nexts, False))
            self.assertEqual(self.call(following, table=table, words=[]), (nexts, False))

    def test_kinds_of_the_parts(self):
        for words in ([], ["one"], ["zero"]):
            told = following(english(1), words)
            self.assertEqual([type(told), type(told[0]), type(told[1])], [tuple, list, bool])

    def test_every_kind_of_place(self):
        table = english(2)
        for text, nexts in NEXT_WORDS:
            with self.subTest(text=text):
                self.assertEqual(self.call(following, table, text.split()), (sorted(nexts), True))
                self.assertEqual(self.call(following, table=table, words=text.split()), (sorted(nexts), True))

    def test_every_word_below_hundred(self):
        table = english(2)
        for word in DIGITS:
            self.assertEqual(following(table, [word])[0], ["hundred", "million", "thousand"])
            self.assertEqual(following(table, ["one", "hundred", word])[0], ["million", "thousand"])
            self.assertEqual(following(table, [word, "hundred"])[0], sorted([*BELOW_HUNDRED, "million", "thousand"]))
        for word in TEENS:
            self.assertEqual(following(table, [word])[0], ["million", "thousand"])
        for word in TENS:
            self.assertEqual(following(table, [word])[0], sorted([*DIGITS, "million", "thousand"]))

    def test_each_of_twenty_scale_words(self):
        for table in great_tables():
            ones, tens, hundred, scales = table
            self.assertEqual(following(table, [ones[7]]), (sorted([hundred, *scales]), True))
            self.assertEqual(following(table, [ones[13]]), (sorted(scales), True))
            for at, scale in enumerate(scales):
                self.assertEqual(following(table, [ones[1], scale]), (sorted([*ones[1:], *tens]), True))
                lower = scales[:at]
                words = [tens[3], ones[2], scale]
                self.assertEqual(following(table, [*words, ones[4]]), (sorted([hundred, *lower]), True))
                self.assertEqual(following(table, [*words, ones[11]]), (sorted(lower), True))
                self.assertEqual(following(table, [*words, tens[7]]), (sorted([*ones[1:10], *lower]), True))
                nexts = sorted([*ones[1:], *tens, *lower])
                self.assertEqual(following(table, [*words, ones[9], hundred]), (nexts, True))

    def test_greatest_name(self):
        for table in [*valid_tables(), *small_tables(), *great_tables()]:
            words = list(words_of(table, limit(table) - 1))
            self.assertEqual(self.call(following, table, words), ([], True))

    def test_words_ascend_by_the_table(self):
        table = odd_table()
        self.assertEqual(following(table, ["s"]), (["x", "z", "zz"], True))
        self.assertEqual(following(table, ["a" * 20])[0], list("klmnopqrs") + ["z", "zz"])
        table = nested_table(2)
        self.assertEqual(following(table, ["a" * 8, "cccccccc", "aaaaaaab"])[0],
                         sorted(["a" * (at * 7 % 20 + 1) for at in range(1, 10)] + ["c"]))

    def test_against_all_names_without_scale_words(self):
        for table in small_tables():
            names = [name(table, number) for number in range(1000)]
            nexts = {words: {} for words in beginnings(names)}
            for words in nexts:
                if words:
                    nexts[words[:-1]][words[-1]] = True
            for words in nexts:
                told = following(table, list(words))
                self.assertEqual(told, (sorted(nexts[words]), " ".join(words) in names))

    def test_against_all_names_with_one_scale_word(self):
        for table in (english(1), nested_table(1)):
            known = SortedNames(table)
            for number in (0, 7, 12, 30, 44, 500, 503, 614, 720, 999, 5000, 19000, 21001, 300000, 999000, 999999):
                words = name(table, number).split(" ")
                nexts = sorted({text.split(" ")[len(words)] for text in known.behind(words)})
                self.assertEqual(following(table, words), (nexts, True))

    def test_new_lists(self):
        table = english(1)
        for words in ([], ["one"], ["one", "thousand"]):
            first, _ = following(table, words)
            kept = list(first)
            first.append("more")
            first[0] = "changed"
            second, _ = following(table, words)
            self.assertEqual(second, kept)
            self.assertIsNot(first, second)
        self.assertEqual(table, english(1))

    def test_words_check(self):
        self.assert_words_check(following)

    def test_table_check_comes_first(self):
        self.assert_words_table_check(following)


class CountNames(WordsCheck, unittest.TestCase):
    def test_no_words(self):
        for many in range(21):
            table = wide_table(many)
            self.assertEqual(self.call(count_names, table, []), limit(table))
            self.assertEqual(self.call(count_names, table=table, words=[]), limit(table))

    def test_english(self):
        for text, many in (("zero", 1), ("one", 101 + 101 * 1000), ("ten", 1 + 1000), ("twenty", 10 + 10 * 1000),
                           ("twenty one", 1 + 1000), ("one hundred", 100 + 100 * 1000),
                           ("one hundred twenty", 10 + 10 * 1000), ("one hundred twenty one", 1001),
                           ("one thousand", 1000), ("one thousand one", 101), ("one thousand twenty", 10),
                           ("one thousand one hundred", 100), ("one thousand one hundred one", 1),
                           ("five hundred thousand", 1000)):
            with self.subTest(text=text):
                self.assertEqual(self.call(count_names, english(1), text.split()), many)
                self.assertEqual(self.call(count_names, table=english(1), words=text.split()), many)

    def test_against_all_names_without_scale_words(self):
        for table in small_tables():
            names = [tuple(words_of(table, number)) for number in range(1000)]
            counts = Counter(words[:many] for words in names for many in range(len(words) + 1))
            for words, many in counts.items():
                self.assertEqual(count_names(table, list(words)), many)

    def test_against_all_names_with_one_scale_word(self):
        for table in (english(1), nested_table(1)):
            known = SortedNames(table)
            for number in [*range(0, 1000, 17), *range(0, 1000000, 4999), *range(0, 1000000, 1000 * 83), 999999]:
                words = name(table, number).split(" ")
                self.assertEqual(count_names(table, words), len(known.behind(words)) + 1)

    def test_words_that_follow_add_up(self):
        for table in great_tables():
            words = []
            for word in [*words_of(table, limit(table) - 1), None]:
                nexts, may_end = following(table, words)
                total = sum(count_names(table, [*words, following_word]) for following_word in nexts)
                self.assertEqual(count_names(table, words), total + (1 if may_end else 0))
                words.append(word)

    def test_great_counts(self):
        table = wide_table(20)
        self.assertEqual(count_names(table, ["one", "scalet"]), 10 ** 60)
        self.assertEqual(count_names(table, ["one", "scalea"]), 1000)
        self.assertEqual(count_names(table, ["twelve"]), (10 ** 63 - 1) // 999)
        self.assertEqual(count_names(table, ["one"]), (10 ** 63 - 1) // 999 * 101)
        words = ["one", "scalet", "one", "hundred", "scales", "ten"]
        self.assertEqual(count_names(table, words), (10 ** 57 - 1) // 999)

    def test_words_check(self):
        self.assert_words_check(count_names)

    def test_table_check_comes_first(self):
        self.assert_words_table_check(count_names)


class CountPrefix(Checks, unittest.TestCase):
    def test_empty_text(self):
        for table in [*valid_tables(), *small_tables(), *great_tables()]:
            self.assertEqual(self.call(count_prefix, table, ""), limit(table))
            self.assertEqual(self.call(count_prefix, table=table, text=""), limit(table))

    def test_letter_by_letter(self):
        table = english(1)
        one = 101101
        counts = [
            ("s", 2 * one + 2 * 1001 + 2 * 10010), ("si", one + 1001 + 10010), ("six", one + 1001 + 10010),
            ("sixt", 1001 + 10010), ("sixte", 1001), ("sixty", 10010), ("sixty ", 10009), ("sixty t", 2 * 1001 + 1000),
            ("sixty th", 1001 + 1000), ("sixty thr", 1001), ("sixty three", 1001), ("sixty three ", 1000),
            ("sixty three t", 1000), ("sixty three thousand", 1000), ("sixty three thousand ", 999),
            ("sixty three thousand z", 0), ("z", 1), ("zero", 1), ("zero ", 0), ("zeroo", 0),
            ("six hundred forty", 10010),
        ]
        for text, many in counts:
            with self.subTest(text=text):
                self.assertEqual(self.call(count_prefix, table, text), many)
                self.assertEqual(self.call(count_prefix, table=table, text=text), many)

    def test_against_all_names_without_scale_words(self):
        for table in small_tables():
            names = [name(table, number) for number in range(1000)]
            counts = Counter(text[:many] for text in names for many in range(len(text) + 1))
            for text, many in counts.items():
                self.assertEqual(count_prefix(table, text), many)
                for more in ("b", " "):
                    self.assertEqual(count_prefix(table, text + more), counts[text + more])

    def test_against_all_names_with_one_scale_word(self):
        for table in (english(1), nested_table(1), mixed_table(1, 5)):
            known = SortedNames(table)
            for number in (0, 8, 13, 64, 345, 999, 1000, 8008, 21312, 640000, 719417, 999999):
                text = name(table, number) + " "
                for many in range(len(text) + 1):
                    self.assertEqual(count_prefix(table, text[:many]), len(known.beginning_with(text[:many])))

    def test_words_that_begin_one_another(self):
        ones, tens, hundred, scales = english(1)
        table = (["a", "ab", "abc", "b", *ones[4:]], tens, "abcd", ["abcde"])
        one = 101101
        # 0 is a, 1 is ab, 2 is abc, and neither hundred nor thousand begins a name.
        self.assertEqual([count_prefix(table, text) for text in ("a", "ab", "abc", "abcd", "abcde", "abcdef")],
                         [1 + 2 * one, 2 * one, one, 0, 0, 0])
        self.assertEqual([count_prefix(table, text) for text in ("a ", "ab ", "abc ", "ab a", "ab abcd", "ab abcde")],
                         [0, one - 1, one - 1, one - 1, one - 1, 1000])
        self.assertEqual([count_prefix(table, "ab abcd " + text) for text in ("", "a", "abc", "abcd")],
                         [100100 - 1, 2 * 1001 + 1000, 1001 + 1000, 1000])
        self.assertEqual(count_prefix(nested_table(0), "a" * 19), 2)
        self.assertEqual(count_prefix(nested_table(0), "a" * 20), 1)
        self.assertEqual(count_prefix(nested_table(0), "a" * 21), 0)

    def test_no_name_begins_so(self):
        table = english(2)
        for text in (" ", "  ", " one", "  one", "one  ", "one  hundred", "one  h", "x", "on e", "onee", "onehundred",
                     "hundred", "hu", "thousand", "th ", "million", "one hundred one hundred", "one one", "one o",
                     "ten hundred", "ten h", "twenty ten", "twenty te", "twenty z", "one z", "one zero", "zero z",
                     "zero one", "one thousand z", "one thousand m", "one thousand thousand", "one million thousand",
                     "one thousand one million", "one thousand ten ", "one hundred and one", "one x ", "one x one",
                     "one hundred  ", "one thousand twenty one ", " " * 2000, "a" * 2000, "one " * 500,
                     "one thousand " * 153, "One", "ONE", "one-hundred", "1", "~", "one\n"):
            with self.subTest(text=text[:30]):
                self.assertEqual(self.call(count_prefix, table, text), 0)
        self.assertEqual(count_prefix(english(0), "one t"), 0)
        self.assertEqual(count_prefix(english(1), "one m"), 0)

    def test_great_tables(self):
        for table in great_tables():
            self.assertEqual(sum(count_prefix(table, letter) for letter in "abcdefghijklmnopqrstuvwxyz"), limit(table))
            words = list(words_of(table, limit(table) - 1))
            for many in range(1, len(words) + 1):
                text = " ".join(words[:many])
                self.assertEqual(count_prefix(table, text + " "), count_names(table, words[:many]) - 1)
                self.assert_count_of_endings(table, text)

    def assert_count_of_endings(self, table, text):
        """The count is that of the names behind all words with which the last word of the text may end."""
        *words, last = text.split(" ")
        endings = [word for word in following(table, words)[0] if word.startswith(last)]
        self.assertEqual(count_prefix(table, text), sum(count_names(table, [*words, word]) for word in endings))

    def test_names_longer_than_the_longest_text(self):
        words = [letter * 20 for letter in "abcdefghijklmnopqrst"]
        many = [letter * 19 + "z" for letter in "abcdefghijklmnopqrst"]
        table = (words, [word[:-1] + "y" for word in words[:8]], "h" * 19 + "x", many)
        text = name(table, limit(table) - 1)
        self.assertGreater(len(text), 2000)
        told = [count_prefix(table, text[:length]) for length in range(0, 2001)]
        self.assertEqual(told, sorted(told, reverse=True))
        # The text ends within the word for 9 that stands behind the scale word of 1000 ** 2.
        self.assertEqual(told[2000], 101 * 1001)
        self.assert_count_of_endings(table, text[:2000])

    def test_table_check(self):
        self.assert_table_check(count_prefix, text="")
        self.assert_table_check(count_prefix, text="x  x")


class Examples(unittest.TestCase):
    def test_examples_of_the_document(self):
        table = english(1)
        before = deepcopy(table)
        nexts = ["eight", "five", "four", "nine", "one", "seven", "six", "thousand", "three", "two"]
        told = [following(table, ["six", "hundred", "forty"]), count_names(table, ["six"]), count_prefix(table, "six")]
        self.assertEqual(told, [(nexts, True), 101101, 112112])
        self.assertEqual(table, before)


if __name__ == "__main__":
    unittest.main()
