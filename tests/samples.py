"""Tables and calls that several tests use."""

from copy import deepcopy
from random import Random
from string import ascii_lowercase

from wordorder.errors import InvalidNumber, InvalidRange, InvalidTable, OrderError
from wordorder.names import name
from wordorder.tables import english, limit

LETTERS = ascii_lowercase[:20]


def wide_table(many=20):
    """A valid table with so many scale words, most of them made up."""
    ones, tens, hundred, _ = english(0)
    return (ones, tens, hundred, ["scale" + letter for letter in LETTERS[:many]])


def odd_table():
    """A valid table with words of 1 and of 20 letters, in no order."""
    ones = [letter for letter in reversed(LETTERS)]
    tens = [letter * 20 for letter in LETTERS[:8]]
    return (ones, tens, "x", ["zz", "z"])


def nested_table(many):
    """A valid table with so many scale words, whose words begin one another and are in no order."""
    spots = [at * 7 % 20 + 1 for at in range(20)]
    return (["a" * spot for spot in spots], ["a" * (spot - 1) + "b" for spot in spots[:8]], "ba",
            ["c" * spot for spot in spots[:many]])


def mixed_table(many, seed):
    """A valid table with so many scale words, whose words are made of three letters by chance, always the same ones."""
    chance = Random(seed)
    words = []
    while len(words) < 29 + many:
        word = "".join(chance.choice("abc") for _ in range(chance.randint(1, 20)))
        if word not in words:
            words.append(word)
    return (words[:20], words[20:28], words[28], words[29:])


def small_tables():
    """Valid tables without scale words, in the usual order of the words and in others."""
    return [english(0), nested_table(0), mixed_table(0, 1), mixed_table(0, 2)]


def great_tables():
    """Valid tables with 20 scale words."""
    return [wide_table(20), nested_table(20), mixed_table(20, 3), mixed_table(20, 4)]


def names_below_million(table):
    """The list of the names of 0 to 999999, by a table with one scale word."""
    scale = table[3][0]
    low = [name(table, number) for number in range(1000)]
    names = list(low)
    for high in range(1, 1000):
        names.append(low[high] + " " + scale)
        names.extend(low[high] + " " + scale + " " + ending for ending in low[1:])
    return names


def sorted_by_name(table, numbers):
    """The numbers in alphabetical order."""
    return sorted(numbers, key=lambda number: name(table, number))


def changed(part, at, word, scales=2):
    """The English table with another word in one of its parts (part 2 is the word hundred)."""
    parts = list(english(scales))
    if part == 2:
        parts[2] = word
    else:
        parts[part][at] = word
    return tuple(parts)


def of_lengths(ones, tens):
    """A table whose first two lists have other lengths, all of its words being right and different."""
    words = [first + second for first in LETTERS for second in "yz"]
    return (words[:ones], [word + "tens" for word in words[:tens]], "hundred", ["thousand"])


def wrong_lengths():
    """Tables of which one of the first two lists has a wrong length."""
    tables = [of_lengths(ones, 8) for ones in (0, 1, 19, 21)]
    tables += [of_lengths(20, tens) for tens in (0, 1, 7, 9)]
    tables += [of_lengths(19, 9), of_lengths(21, 7), of_lengths(8, 20)]
    # A wrong word besides does not count, wherever it stands.
    for ones, tens in ((19, 8), (21, 8), (20, 7), (20, 9)):
        for part in range(4):
            parts = list(of_lengths(ones, tens))
            if part == 2:
                parts[2] = "No"
            else:
                parts[part][0] = ""
            tables.append(tuple(parts))
    return tables


def wrong_words():
    """Tuples (table, wrong word) of tables with the right lengths."""
    cases = []
    for wrong in ("", "a" * 21, "a" * 40, "Two", "twO", "TWO", "tw0", "2", "two three", " two", "two ",
                  " ", "twenty-one", "-", "two.", "tw_o", "two\n"):
        for part, at in ((0, 0), (0, 7), (0, 19), (1, 0), (1, 7), (2, 0), (3, 0), (3, 1)):
            cases.append((changed(part, at, wrong), wrong))
    for part, at, twice in ((0, 1, "zero"), (0, 19, "zero"), (0, 3, "two"), (1, 1, "twenty"), (1, 7, "eighty"),
                            (3, 1, "thousand"), (1, 0, "nineteen"), (1, 7, "zero"), (2, 0, "seven"),
                            (2, 0, "ninety"), (3, 0, "one"), (3, 1, "fifty"), (3, 0, "hundred"), (3, 1, "hundred")):
        cases.append((changed(part, at, twice), twice))
    # The first word of the two equal ones is right: what stands behind it counts before the second one does.
    cases.append((changed(0, 0, "nineteen"), "nineteen"))
    cases.append((changed(0, 19, "thousand"), "thousand"))
    return cases + two_wrong_words()


def two_wrong_words():
    """Tuples (table, first wrong word) of tables with two wrong words."""
    ones, tens, hundred, scales = english(2)
    return [
        (([*ones[:3], "A", *ones[4:7], "B", *ones[8:]], tens, hundred, scales), "A"),
        (([*ones[:3], "B", *ones[4:7], "A", *ones[8:]], tens, hundred, scales), "B"),
        (([*ones[:19], "Z"], ["A", *tens[1:]], hundred, scales), "Z"),
        ((ones, [*tens[:7], "Z"], "A", scales), "Z"),
        ((ones, tens, "Z", ["A", "million"]), "Z"),
        ((ones, tens, hundred, ["Z", "A"]), "Z"),
        ((ones, ["A", *tens[1:]], hundred, ["Z", "million"]), "A"),
        # A word that stood before, and then a string that is no word; and the other way round.
        ((ones, [*tens[:3], "three", *tens[4:]], "H", scales), "three"),
        ((ones, [*tens[:3], "T", *tens[4:]], "three", scales), "T"),
        # Two words that stood before.
        (([*ones[:18], "two", "one"], tens, hundred, scales), "two"),
        ((ones, tens, "seventy", ["one", "seventy"]), "seventy"),
        # The string that is no word, twice.
        ((["", "", *ones[2:]], tens, hundred, scales), ""),
    ]


def valid_tables():
    """A list of valid tables."""
    return [english(0), english(1), english(10), wide_table(0), wide_table(1), wide_table(20), odd_table()]


def numbers_around(bound):
    """Numbers that are not from 0 to the bound less 1."""
    return (-1, -2, -10 ** 70, bound, bound + 1, 10 ** 70)


class Checks:
    """What the test cases of several files check in the same way."""

    def assert_raises_exactly(self, kind, value, action, *args, **named):
        """The call raises an error of exactly this class with this value, and leaves its arguments as they were."""
        args_before = deepcopy(args)
        named_before = deepcopy(named)
        with self.assertRaises(OrderError) as held:
            action(*args, **named)
        self.assertIs(type(held.exception), kind)
        self.assertEqual(held.exception.value, value)
        self.assertEqual((args, named), (args_before, named_before))

    def call(self, action, *args, **named):
        """Return what the call returns, having checked that it leaves its arguments as they were."""
        before = deepcopy((args, named))
        told = action(*args, **named)
        self.assertEqual((args, named), before)
        return told

    def assert_number_check(self, action, *others, **named):
        """The call makes the Number check of its argument number; the others stand before it."""
        for table in valid_tables():
            for wrong in numbers_around(limit(table)):
                with self.subTest(scales=len(table[3]), wrong=wrong):
                    self.assert_raises_exactly(InvalidNumber, wrong, action, table, *others, wrong)
                    self.assert_raises_exactly(InvalidNumber, wrong, action, table=table, **named, number=wrong)

    def assert_table_check(self, action, **others):
        """The call makes the Table check of its argument table, before it looks at its other arguments."""
        cases = [(table, None) for table in wrong_lengths()] + wrong_words()
        for table, value in cases:
            with self.subTest(table=table):
                self.assert_raises_exactly(InvalidTable, value, action, table, *others.values())
                self.assert_raises_exactly(InvalidTable, value, action, table=table, **others)


class BelowChecks(Checks):
    def assert_below_check(self, action, **others):
        """The call makes the Below check of its argument below, before it looks at its other arguments."""
        for table in valid_tables():
            top = limit(table)
            for below in (0, -1, -2, -10 ** 70, top + 1, top + 2, top * 2, 10 ** 70):
                with self.subTest(below=below):
                    self.assert_raises_exactly(InvalidRange, below, action, table, *others.values(), below)
                    self.assert_raises_exactly(InvalidRange, below, action, table=table, **others, below=below)

    def assert_spot_check(self, action, other):
        """The call raises InvalidNumber for what is not from 0 to below less 1."""
        for table in valid_tables():
            for below in (1, 2, 10, 345, 999, 1000, limit(table) - 1, limit(table), None):
                bound = limit(table) if below is None else below
                for wrong in numbers_around(bound):
                    with self.subTest(below=below, wrong=wrong):
                        named = {"table": table, other: wrong, "below": below}
                        self.assert_raises_exactly(InvalidNumber, wrong, action, table, wrong, below)
                        self.assert_raises_exactly(InvalidNumber, wrong, action, **named)
            for wrong in numbers_around(limit(table)):
                self.assert_raises_exactly(InvalidNumber, wrong, action, table, wrong)
                self.assert_raises_exactly(InvalidNumber, wrong, action, **{"table": table, other: wrong})

    def assert_none_is_the_limit(self, action, other):
        for table in valid_tables():
            for number in (0, 1, 7, 999, limit(table) - 1):
                told = self.call(action, table, number, limit(table))
                self.assertEqual(self.call(action, table, number), told)
                self.assertEqual(self.call(action, table, number, None), told)
                self.assertEqual(self.call(action, table, number, below=None), told)
                self.assertEqual(self.call(action, **{"table": table, other: number, "below": None}), told)
                self.assertEqual(self.call(action, **{"table": table, other: number}), told)
