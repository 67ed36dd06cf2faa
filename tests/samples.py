"""Tables and calls that several tests use."""

from copy import deepcopy
from string import ascii_lowercase

from wordorder.errors import InvalidTable, OrderError
from wordorder.tables import english

LETTERS = ascii_lowercase[:20]


def wide_table(many=20):
    """A valid table with so many scale words, most of them made up."""
    ones, tens, hundred, _ = english(0)
    return (ones, tens, hundred, ["scale" + letter for letter in LETTERS[:many]])


def odd_table():
    """A valid table with words of 1 and of 20 letters, in no order."""
    ones = [letter for letter in reversed(LETTERS)]
    tens = [letter * 20 for letter in LETTERS[:8]]
    return (ones, tens, "x", ["zz", "z"])


def changed(part, at, word, scales=2):
    """The English table with another word in one of its parts (part 2 is the word hundred)."""
    parts = list(english(scales))
    if part == 2:
        parts[2] = word
    else:
        parts[part][at] = word
    return tuple(parts)


def of_lengths(ones, tens):
    """A table whose first two lists have other lengths, all of its words being right and different."""
    words = [first + second for first in LETTERS for second in "yz"]
    return (words[:ones], [word + "tens" for word in words[:tens]], "hundred", ["thousand"])


def wrong_lengths():
    """Tables of which one of the first two lists has a wrong length."""
    tables = [of_lengths(ones, 8) for ones in (0, 1, 19, 21)]
    tables += [of_lengths(20, tens) for tens in (0, 1, 7, 9)]
    tables += [of_lengths(19, 9), of_lengths(21, 7), of_lengths(8, 20)]
    # A wrong word besides does not count, wherever it stands.
    for ones, tens in ((19, 8), (21, 8), (20, 7), (20, 9)):
        for part in range(4):
            parts = list(of_lengths(ones, tens))
            if part == 2:
                parts[2] = "No"
            else:
                parts[part][0] = ""
            tables.append(tuple(parts))
    return tables


def wrong_words():
    """Tuples (table, wrong word) of tables with the right lengths."""
    cases = []
    for wrong in ("", "a" * 21, "a" * 40, "Two", "twO", "TWO", "tw0", "2", "two three", " two", "two ",
                  " ", "twenty-one", "-", "two.", "tw_o", "two\n"):
        for part, at in ((0, 0), (0, 7), (0, 19), (1, 0), (1, 7), (2, 0), (3, 0), (3, 1)):
            cases.append((changed(part, at, wrong), wrong))
    for part, at, twice in ((0, 1, "zero"), (0, 19, "zero"), (0, 3, "two"), (1, 1, "twenty"), (1, 7, "eighty"),
                            (3, 1, "thousand"), (1, 0, "nineteen"), (1, 7, "zero"), (2, 0, "seven"),
                            (2, 0, "ninety"), (3, 0, "one"), (3, 1, "fifty"), (3, 0, "hundred"), (3, 1, "hundred")):
        cases.append((changed(part, at, twice), twice))
    # The first word of the two equal ones is right: what stands behind it counts before the second one does.
    cases.append((changed(0, 0, "nineteen"), "nineteen"))
    cases.append((changed(0, 19, "thousand"), "thousand"))
    return cases + two_wrong_words()


def two_wrong_words():
    """Tuples (table, first wrong word) of tables with two wrong words."""
    ones, tens, hundred, scales = english(2)
    return [
        (([*ones[:3], "A", *ones[4:7], "B", *ones[8:]], tens, hundred, scales), "A"),
        (([*ones[:3], "B", *ones[4:7], "A", *ones[8:]], tens, hundred, scales), "B"),
        (([*ones[:19], "Z"], ["A", *tens[1:]], hundred, scales), "Z"),
        ((ones, [*tens[:7], "Z"], "A", scales), "Z"),
        ((ones, tens, "Z", ["A", "million"]), "Z"),
        ((ones, tens, hundred, ["Z", "A"]), "Z"),
        ((ones, ["A", *tens[1:]], hundred, ["Z", "million"]), "A"),
        # A word that stood before, and then a string that is no word; and the other way round.
        ((ones, [*tens[:3], "three", *tens[4:]], "H", scales), "three"),
        ((ones, [*tens[:3], "T", *tens[4:]], "three", scales), "T"),
        # Two words that stood before.
        (([*ones[:18], "two", "one"], tens, hundred, scales), "two"),
        ((ones, tens, "seventy", ["one", "seventy"]), "seventy"),
        # The string that is no word, twice.
        ((["", "", *ones[2:]], tens, hundred, scales), ""),
    ]


def valid_tables():
    """A list of valid tables."""
    return [english(0), english(1), english(10), wide_table(0), wide_table(1), wide_table(20), odd_table()]


class Checks:
    """What the test cases of several files check in the same way."""

    def assert_raises_exactly(self, kind, value, action, *args, **named):
        """The call raises an error of exactly this class with this value, and leaves its arguments as they were."""
        args_before = deepcopy(args)
        named_before = deepcopy(named)
        with self.assertRaises(OrderError) as held:
            action(*args, **named)
        self.assertIs(type(held.exception), kind)
        self.assertEqual(held.exception.value, value)
        self.assertEqual((args, named), (args_before, named_before))

    def assert_table_check(self, action, **others):
        """The call makes the Table check of its argument table, before it looks at its other arguments."""
        cases = [(table, None) for table in wrong_lengths()] + wrong_words()
        for table, value in cases:
            with self.subTest(table=table):
                self.assert_raises_exactly(InvalidTable, value, action, table, *others.values())
                self.assert_raises_exactly(InvalidTable, value, action, table=table, **others)
