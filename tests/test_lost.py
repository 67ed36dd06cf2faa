import re
import unittest
from collections import Counter
from copy import deepcopy
from functools import lru_cache, reduce
from itertools import islice
from random import Random

from samples import (
    Checks, great_tables, mixed_table, names_below_million, nested_table, odd_table, small_tables, sorted_by_name,
    valid_tables, wide_table,
)
from wordorder.errors import InvalidTable
from wordorder.lost import count_fitting, fits, fitting, greatest_fitting, least_fitting
from wordorder.names import name, number_of, words_of
from wordorder.ranges import in_order
from wordorder.tables import english, limit

COUNTED = (count_fitting, least_fitting, greatest_fitting)


def walked(*args, **named):
    return list(fitting(*args, **named))


def expression(pattern):
    """The regular expression of the names that a pattern fits, each word of them with a space behind it."""
    parts = {None: "[a-z]+ ", "": "(?:[a-z]+ )*"}
    return re.compile("".join(parts.get(item, re.escape(item or "") + " ") for item in pattern))


def matched(pattern, words):
    """Tell whether words match a pattern, by all ways to part them."""
    @lru_cache(None)
    def rest(at, place):
        if place == len(pattern):
            return at == len(words)
        if pattern[place] == "":
            return rest(at, place + 1) or (at < len(words) and rest(at + 1, place))
        return at < len(words) and pattern[place] in (None, words[at]) and rest(at + 1, place + 1)

    return rest(0, 0)


def with_lost_words(words, chance, others):
    """A pattern made by chance of the words of a name, some of which are lost and some are changed."""
    pattern = []
    for word in words:
        pattern += chance.choice([[word], [word], [word], [None], [""], [], ["", word], [word, ""], ["", None],
                                  [None, ""], [chance.choice(others)]])
    return pattern + chance.choice([[], [], [""], [None]])


def counted_by_groups(table, pattern):
    """How many numbers fit a pattern, with the sets of all its places to which the groups of their names may lead."""
    groups = [tuple(words_of(table, group)) for group in range(1, 1000)]

    def across(places):
        found = set()
        for at in places:
            found.add(at)
            while at < len(pattern) and pattern[at] == "":
                at += 1
                found.add(at)
        return frozenset(found)

    @lru_cache(None)
    def read(places, word):
        behind = [at for at in places if at < len(pattern) and pattern[at] == ""]
        return across(behind + [at + 1 for at in places if at < len(pattern) and pattern[at] in (None, word)])

    @lru_cache(None)
    def ways(level, places, empty):
        if level < 0:
            return int(len(pattern) in places and not empty)
        scale = tuple(table[3][level - 1:level]) if level > 0 else ()
        counts = Counter(reduce(read, group + scale, places) for group in groups)
        found = sum(times * ways(level - 1, behind, False) for behind, times in counts.items())
        return found + ways(level - 1, places, empty)

    zero = len(pattern) in read(across([0]), table[0][0])
    return ways(len(table[3]), across([0]), True) + int(zero)


def all_words(table):
    return [*table[0], *table[1], table[2], *table[3]]


class Fits(Checks, unittest.TestCase):
    def assert_fits(self, table, pattern, number, told):
        with self.subTest(pattern=pattern, number=number):
            self.assertIs(self.call(fits, table, pattern, number), told)
            self.assertIs(self.call(fits, table=table, pattern=pattern, number=number), told)

    def test_the_words_of_a_name(self):
        for table in [english(3), *small_tables(), *great_tables()]:
            top = limit(table)
            for number in (0, 1, 10, 20, 21, 100, 345, 999, top // 3, top - 1):
                words = list(words_of(table, number))
                self.assert_fits(table, words, number, True)
                self.assert_fits(table, words + [None], number, False)
                self.assert_fits(table, [None] + words, number, False)
                self.assert_fits(table, words[1:], number, False)
                self.assert_fits(table, words[:-1], number, False)
                for other in (2, 11, 30, 344, 998, top // 7, top - 2):
                    self.assert_fits(table, words, other, False)

    def test_one_word_lost(self):
        for table in [english(3), nested_table(20), mixed_table(20, 3)]:
            for number in (0, 7, 345, limit(table) // 7, limit(table) - 1):
                words = list(words_of(table, number))
                for at in range(len(words)):
                    for lost in (None, ""):
                        self.assert_fits(table, [*words[:at], lost, *words[at + 1:]], number, True)
                    self.assert_fits(table, [*words[:at], *words[at + 1:]], number, False)
                    self.assert_fits(table, [*words[:at], "unknown", *words[at + 1:]], number, False)

    def test_gaps_where_no_word_is_lost(self):
        for table in (english(2), nested_table(20)):
            for number in (0, 345, limit(table) // 7):
                words = list(words_of(table, number))
                for at in range(len(words) + 1):
                    for gap in ([""], ["", ""], [""] * 9):
                        self.assert_fits(table, [*words[:at], *gap, *words[at:]], number, True)
                    for wrong in ([None], ["", None], [None, ""], ["", None, ""]):
                        self.assert_fits(table, [*words[:at], *wrong, *words[at:]], number, False)
                self.assert_fits(table, [part for word in words for part in ("", word)] + [""], number, True)

    def test_several_or_all_words_lost(self):
        table = english(2)
        # The name of the number has 8 words.
        number = number_of(table, "three hundred forty five thousand six hundred seven")
        for pattern, told in (
                ([""], True), (["", ""], True), ([None] * 8, True), ([None] * 7, False), ([None] * 9, False),
                ([None] * 7 + [""], True), ([None] * 8 + [""], True), ([None] * 9 + [""], False),
                (["", None] * 8, True), (["", None] * 9, False), (["three", "", "seven"], True),
                (["three", "", "six"], False), (["", "hundred", "", "hundred", ""], True),
                (["", "hundred", "", "hundred", "", "hundred", ""], False), (["", "hundred", None], True),
                (["", "hundred", None, None], False), (["", "six", "hundred", ""], True),
                (["", "five", "hundred", ""], False), ([None, "hundred", ""], True), (["hundred", ""], False),
                (["three", None, None, "five", "", None, "hundred", "seven"], True),
                (["three", None, None, "five", "", None, None, "hundred", "seven"], True),
                (["three", None, None, "five", "", None, None, None, "hundred", "seven"], False),
                (["", "forty", "", "six", "", "forty", ""], False)):
            self.assert_fits(table, pattern, number, told)

    def test_empty_pattern(self):
        for table in valid_tables():
            for number in (0, 1, 999, limit(table) - 1):
                self.assert_fits(table, [], number, False)
                self.assert_fits(table, [""], number, True)

    def test_word_of_zero(self):
        table = english(1)
        for pattern, told in ((["zero"], True), ([None], True), ([""], True), (["", "zero", ""], True),
                              (["one"], False), ([None, None], False), (["zero", None], False),
                              (["zero", "zero"], False)):
            self.assert_fits(table, pattern, 0, told)
        for number in (1, 10, 100, 1000, 999999):
            for pattern in (["zero"], ["zero", ""], ["", "zero"], ["", "zero", ""], ["one", "zero", ""]):
                self.assert_fits(table, pattern, number, False)

    def test_words_that_the_table_does_not_have(self):
        for word in ("million", "x", "One", "ONE", " ", "one ", " one", "one hundred", "a" * 21, "1", "-", "on",
                     "ones"):
            for pattern in ([word], ["", word, ""], [word, ""], ["one", word], [None, word]):
                for number in (0, 1, 100, 1000):
                    self.assert_fits(english(1), pattern, number, False)

    def test_words_that_begin_one_another(self):
        table = nested_table(1)
        for number in range(1, 1000, 37):
            words = list(words_of(table, number))
            for other in range(0, 1000, 53):
                self.assert_fits(table, words, other, number == other)

    def test_against_all_ways_to_part_the_words(self):
        chance = Random(31)
        for table in [english(2), nested_table(2), mixed_table(20, 3), odd_table()]:
            others = all_words(table)
            for _ in range(150):
                number = chance.randrange(limit(table))
                pattern = with_lost_words(words_of(table, number), chance, others)
                for other in (number, chance.randrange(limit(table)), chance.randrange(1000)):
                    told = matched(pattern, list(words_of(table, other)))
                    self.assertIs(fits(table, pattern, other), told)

    def test_long_patterns(self):
        table = wide_table(20)
        words = list(words_of(table, limit(table) - 1))
        self.assert_fits(table, [part for word in words for part in ("", word, "")], limit(table) - 1, True)
        self.assert_fits(table, [None] * len(words), limit(table) - 1, True)
        self.assert_fits(table, [None] * 2000, limit(table) - 1, False)
        self.assert_fits(table, [""] * 2000, 0, True)
        self.assert_fits(table, ["", "nine"] * 1000, limit(table) - 1, False)

    def test_number_check(self):
        self.assert_number_check(fits, [""], pattern=[""])
        self.assert_number_check(fits, [], pattern=[])

    def test_table_check_comes_first(self):
        self.assert_table_check(fits, pattern=[""], number=0)
        self.assert_table_check(fits, pattern=["x"], number=-1)


class Counted(Checks, unittest.TestCase):
    def assert_fitting(self, table, pattern, found):
        """The numbers found are those that fit, in alphabetical order."""
        with self.subTest(pattern=pattern):
            self.assertEqual(self.call(walked, table, pattern), found)
            told = [self.call(action, table, pattern) for action in COUNTED]
            self.assertEqual(told, [len(found), min(found, default=None), max(found, default=None)])

    def test_against_fits_without_scale_words(self):
        chance = Random(32)
        for table in small_tables():
            others = all_words(table) + ["unknown"]
            ordered = sorted_by_name(table, range(1000))
            patterns = [[], [""], [None], ["", ""], [None, None], [None] * 4, [None] * 5, ["", None, ""], [others[0]],
                        [others[0], ""], ["", others[0], ""], [others[28]], ["", others[28]], ["", others[28], ""]]
            for _ in range(60):
                pattern = with_lost_words(words_of(table, chance.randrange(1000)), chance, others)
                patterns.append(pattern)
            for pattern in patterns:
                self.assert_fitting(table, pattern, [number for number in ordered if fits(table, pattern, number)])

    def test_against_all_names_with_one_scale_word(self):
        for table, seed in ((english(1), 33), (mixed_table(1, 17), 34)):
            chance = Random(seed)
            names = names_below_million(table)
            ordered = sorted(range(1000000), key=names.__getitem__)
            spelled = [names[number] + " " for number in ordered]
            scale = table[3][0]
            patterns = [["", table[0][1], None, ""], ["", scale, None], [None, None, "", table[0][5]]]
            while len(patterns) < 5:
                words = names[chance.randrange(1000000)].split(" ")
                pattern = with_lost_words(words, chance, all_words(table))
                # Regular expressions take long for many gaps.
                if pattern.count("") < 4:
                    patterns.append(pattern)
            for pattern in patterns:
                text = expression(pattern)
                found = [number for number, words in zip(ordered, spelled) if text.fullmatch(words)]
                self.assert_fitting(table, pattern, found)
                inside = set(found)
                for number in chance.choices(range(1000000), k=300) + chance.choices([*found, 0], k=50):
                    self.assertIs(fits(table, pattern, number), number in inside)

    def test_each_number_is_counted_once(self):
        # The names of many numbers fit these patterns in several ways.
        for pattern, count in (
                (["", "one", ""], 10 ** 6 - 819 ** 2), (["", "hundred", "", ""], 10 ** 6 - 100 ** 2),
                (["", None, "", None, ""], 10 ** 6 - 28),
                (["", "", "one", "", None, ""], 10 ** 6 - 819 ** 2 - 81 * 819),
                (["", "", ""], 10 ** 6), (["", None, ""], 10 ** 6)):
            found = [number for number in range(1000) if fits(english(0), pattern, number)]
            self.assert_fitting(english(0), pattern, sorted_by_name(english(0), found))
            with self.subTest(pattern=pattern):
                self.assertEqual(count_fitting(english(1), pattern), count)

    def test_english(self):
        table = english(1)
        for pattern, count, least, greatest in (
                ([None, "hundred"], 9, 100, 900), (["", "thousand", None], 999 * 27, 1001, 999090),
                (["five", "five"], 0, None, None), (["zero"], 1, 0, 0), (["", "zero"], 1, 0, 0), ([None], 28, 0, 90),
                (["", "thousand"], 999, 1000, 999000), (["", "thousand", ""], 999000, 1000, 999999),
                (["", "hundred", "", "hundred", ""], 810000, 100100, 999999), (["thousand", ""], 0, None, None),
                ([], 0, None, None), ([""], 10 ** 6, 0, 999999), (["", "million"], 0, None, None),
                ([None] * 9, 72 * 72 * 81, 121000 + 121, 999999), ([None] * 10, 0, None, None)):
            with self.subTest(pattern=pattern):
                told = [self.call(action, table, pattern) for action in COUNTED]
                self.assertEqual(told, [count, least, greatest])
                self.assertEqual([action(table=table, pattern=pattern) for action in COUNTED], told)

    def test_all_numbers_of_great_tables(self):
        for table in great_tables():
            top = limit(table)
            for pattern in ([""], [""] * 2, [""] * 30):
                told = [self.call(action, table, pattern) for action in COUNTED]
                self.assertEqual(told, [top, 0, top - 1])
            for pattern in (["", None], [None, ""], ["", None, ""], ["", "", None, "", ""]):
                self.assertEqual([action(table, pattern) for action in COUNTED], [top, 0, top - 1])
            self.assertEqual([action(table, [table[0][0]]) for action in COUNTED], [1, 0, 0])
            self.assertEqual([action(table, []) for action in COUNTED], [0, None, None])

    def test_so_many_words_or_more(self):
        for table in (wide_table(20), nested_table(20), english(3)):
            exact = [count_fitting(table, [None] * many) for many in range(31)]
            self.assertEqual(exact[:3], [0, 28, 9 + 72 + 27 * len(table[3])])
            for many in range(31):
                more = count_fitting(table, [None] * many + [""])
                self.assertEqual(more, limit(table) - sum(exact[:many]))
                self.assertEqual(count_fitting(table, [""] + [None] * many), more)
                mixed = ["", None] * (many // 2) + [None] * (many - many // 2) + [""]
                self.assertEqual(count_fitting(table, mixed), more)

    def test_every_scale_word_has_been_lost_but_one(self):
        for table in great_tables():
            for at in range(20):
                scale = table[3][at]
                # Groups above and below are free, the group of the scale word is not empty.
                self.assertEqual(count_fitting(table, ["", scale, ""]), limit(table) // 1000 * 999)
                self.assertEqual(least_fitting(table, ["", scale, ""]), 1000 ** (at + 1))
                self.assertEqual(greatest_fitting(table, ["", scale, ""]), limit(table) - 1)
                self.assertEqual(count_fitting(table, ["", scale]), 999 * 1000 ** (19 - at))
                self.assertEqual(greatest_fitting(table, [None, scale, ""]), 91 * 1000 ** (at + 1) - 1)
            self.assertEqual(count_fitting(table, ["", table[3][0], "", table[3][1], ""]), 0)
            self.assertEqual(count_fitting(table, ["", table[3][5], "", table[3][1], ""]), 999 ** 2 * 1000 ** 19)

    def test_one_word_among_all(self):
        for table in (wide_table(20), nested_table(20), mixed_table(20, 3)):
            top = limit(table)
            one, hundred = table[0][1], table[2]
            self.assertEqual(count_fitting(table, ["", one]), 90 * 1000 ** 20)
            self.assertEqual(count_fitting(table, ["", one, hundred]), 1000 ** 20)
            self.assertEqual(count_fitting(table, ["", hundred, one, ""]), top - (1000 - 9) ** 21)
            # There are 9 hundreds and 91 endings without the word of 1.
            self.assertEqual(count_fitting(table, ["", one, ""]), top - (9 * 91) ** 21)
            self.assertEqual(count_fitting(table, ["", "", one, "", ""]), top - (9 * 91) ** 21)
            self.assertEqual(count_fitting(table, ["", hundred, ""]), top - 100 ** 21)
            self.assertEqual(count_fitting(table, [table[0][0], ""]), 1)

    def test_lost_word_may_be_each_word(self):
        for table in (nested_table(20), english(2)):
            words = all_words(table)
            one, hundred = table[0][1], table[2]
            # One gap at most: then a number fits in one way only, and each lost word has its place.
            for ahead, behind in (([], []), ([""], []), ([], [""]), ([""], [None] * 28), ([None] * 28, [""]),
                                  ([None] * 3, ["", one, None]), (["", one] + [None] * 25, [None, hundred]),
                                  ([one] + [None] * 13, [None] * 13 + ["", one]),
                                  ([None, hundred, ""], [hundred, None])):
                whole = count_fitting(table, [*ahead, None, *behind])
                self.assertEqual(sum(count_fitting(table, [*ahead, word, *behind]) for word in words), whole)

    def test_against_counting_group_by_group(self):
        chance = Random(35)
        for table in (english(3), nested_table(4)):
            one, two, hundred, scale = table[0][1], table[0][2], table[2], table[3][1]
            patterns = [["", one] + [None] * 6 + [two, ""], ["", one, "", one, "", two, ""],
                        ["", None, one, None, ""] * 6,
                        [one, "", hundred, None, None, hundred, "", one], ["", scale, None, None, "", one, "", two]]
            for _ in range(4):
                pattern = with_lost_words(words_of(table, chance.randrange(limit(table))), chance, all_words(table))
                patterns.append(["", *pattern][:30])
            for pattern in patterns:
                with self.subTest(pattern=pattern):
                    self.assertEqual(count_fitting(table, pattern), counted_by_groups(table, pattern))

    def test_thirty_items(self):
        for table in great_tables():
            top = limit(table)
            one, two, hundred = table[0][1], table[0][2], table[2]
            for pattern in (["", one] + [None] * 28, ["", one] + [None] * 27 + [""], [None] * 27 + ["", two, hundred],
                            ["", None, one] * 10, ["", one, ""] * 10, [one, ""] * 15, ["", hundred] * 15,
                            ["", one, None, "", two, ""] * 5,
                            ["", one] + [None] * 10 + [two, ""] * 2 + [hundred, ""] * 7,
                            ["", table[3][9], None, None, None, ""] + ["", one, None] * 8):
                with self.subTest(pattern=pattern):
                    self.assertLessEqual(len(pattern), 30)
                    self.assert_ends(table, pattern, top)

    def assert_ends(self, table, pattern, top):
        """What is told of a pattern that very many numbers fit holds together."""
        count, least, greatest = [self.call(action, table, pattern) for action in COUNTED]
        self.assertTrue(1 < count < top)
        self.assertTrue(0 <= least < greatest < top)
        found = list(islice(fitting(table, pattern), 60))
        for number in (least, greatest, *found):
            self.assertIs(fits(table, pattern, number), True)
            self.assertTrue(matched(pattern, list(words_of(table, number))))
            self.assertTrue(least <= number <= greatest)
        names = [name(table, number) for number in found]
        self.assertEqual(names, sorted(set(names)))

    def test_least_and_greatest_of_great_tables(self):
        table = wide_table(20)
        top = limit(table)
        for pattern, least, greatest in (
                (["", "nine", "hundred"], 900, top - 100), (["", "one", ""], 1, top - 9), (["", "one"], 1, top - 9),
                (["", "twenty", "", "twenty"], 20020, top - 1000000 + 929920), (["one", ""], 1, 2 * 10 ** 62 - 1),
                (["twenty", ""], 20, 3 * 10 ** 61 - 1), (["zero", ""], 0, 0), (["", None, "hundred"], 100, top - 100),
                (["one", "hundred", ""], 100, 2 * 10 ** 62 - 1),
                (["", "five", "scalec"], 5 * 10 ** 9, top - 5 * 10 ** 9),
                (["", "hundred", "hundred", ""], None, None), (["", "scalea", "", "scaleb", ""], None, None),
                (["", "scalet", None], 10 ** 60 + 1, 999 * 10 ** 60 + 90), ([None, "scalet"], 10 ** 60, 90 * 10 ** 60)):
            with self.subTest(pattern=pattern):
                self.assertEqual(self.call(least_fitting, table, pattern), least)
                self.assertEqual(self.call(greatest_fitting, table, pattern), greatest)

    def test_checks(self):
        for action in (*COUNTED, walked):
            self.assert_table_check(action, pattern=[""])
            self.assert_table_check(action, pattern=[])
            self.assert_table_check(action, pattern=["x"])


class Walks(Checks, unittest.TestCase):
    def test_number_by_number(self):
        walk = fitting(english(0), ["nine", "hundred", "", "nine"])
        told = [next(walk) for _ in range(9)]
        self.assertEqual(told, [989, 959, 949, 909, 999, 979, 969, 939, 929])
        self.assertRaises(StopIteration, next, walk)

    def test_alphabetical_order(self):
        table = english(0)
        self.assertEqual(self.call(walked, table, [None]), sorted_by_name(table, [*range(20), *range(20, 100, 10)]))
        self.assertEqual(self.call(walked, table, [None, "hundred"]), [800, 500, 400, 900, 100, 700, 600, 300, 200])
        self.assertEqual(self.call(walked, table=table, pattern=["two", "hundred", "", "one"]),
                         sorted_by_name(table, [201, *range(221, 300, 10)]))
        self.assertEqual(self.call(walked, table, []), [])
        self.assertEqual(self.call(walked, table, ["zero"]), [0])

    def test_begins_at_once_and_stops_early(self):
        for table in great_tables():
            for pattern in ([""], ["", None], ["", table[0][1]], [table[1][0], "", table[3][0], None],
                            ["", None, "", table[0][3], None, "", None, None]):
                found = list(islice(fitting(table, pattern), 40))
                names = [name(table, number) for number in found]
                self.assertEqual(names, sorted(set(names)))
                for number in found:
                    self.assertTrue(fits(table, pattern, number))
                told = []
                for number in fitting(table=table, pattern=pattern):
                    told.append(number)
                    if len(told) == 7:
                        break
                self.assertEqual(told, found[:7])

    def test_first_ones_of_all(self):
        for table in (wide_table(20), nested_table(20)):
            top = limit(table)
            ordered = list(islice(in_order(table, 0, top - 1), 3000))
            self.assertEqual(list(islice(fitting(table, [""]), 3000)), ordered)
            for pattern in (["", table[2], ""], ["", table[0][4], "", table[0][3]],
                            ["", None, None, table[0][1], None]):
                wanted = [number for number in ordered if fits(table, pattern, number)]
                self.assertEqual(list(islice(fitting(table, pattern), len(wanted))), wanted)

    def test_two_walks_at_the_same_time(self):
        table = english(1)
        first, second = fitting(table, [None, "hundred"]), fitting(table, ["twenty", ""])
        self.assertEqual([next(first), next(second), next(second), next(first), next(first)], [800, 20, 28, 500, 400])
        self.assertEqual(list(first), [900, 100, 700, 600, 300, 200])
        self.assertEqual([20, 28, *second], walked(table, ["twenty", ""]))
        pairs = list(zip(fitting(table, [None, "hundred"]), fitting(table, [None, "hundred"])))
        self.assertEqual(pairs, [(number, number) for number in (800, 500, 400, 900, 100, 700, 600, 300, 200)])

    def test_one_walk_within_another(self):
        table = english(0)
        told = [(one, other) for one in fitting(table, [None, "hundred"]) for other in fitting(table, ["six", ""])
                if other < 10]
        self.assertEqual(told, [(one, 6) for one in (800, 500, 400, 900, 100, 700, 600, 300, 200)])

    def test_arguments_changed_under_way(self):
        table = english(1)
        pattern = [None, "hundred"]
        walk = fitting(table, pattern)
        self.assertEqual(next(walk), 800)
        table[0][5] = "zzz"
        table[3].clear()
        pattern[1] = "x"
        pattern.append("")
        self.assertEqual(list(walk), [500, 400, 900, 100, 700, 600, 300, 200])

    def test_arguments_stay_the_same_under_way(self):
        table, pattern = english(1), ["", None, "", "hundred"]
        before = deepcopy((table, pattern))
        for _ in islice(fitting(table, pattern), 200):
            self.assertEqual((table, pattern), before)

    def test_no_number_before_an_error(self):
        wrong = (*english(1)[:3], ["thousand", "X"])
        told = []
        with self.assertRaises(InvalidTable) as held:
            for number in fitting(wrong, [""]):
                told.append(number)
        self.assertEqual((told, held.exception.value), ([], "X"))


class Examples(unittest.TestCase):
    def test_examples_of_the_document(self):
        table = english(1)
        told = [fits(table, ["", "five"], 1005), count_fitting(table, [None, "hundred"]),
                least_fitting(table, ["", "thousand", None]), greatest_fitting(table, ["", "thousand", None]),
                count_fitting(table, ["five", "five"])]
        self.assertEqual(told, [True, 9, 1001, 999090, 0])


if __name__ == "__main__":
    unittest.main()
