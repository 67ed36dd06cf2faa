import unittest
from collections import Counter
from random import Random

from samples import (
    Checks, great_tables, mixed_table, names_below_million, nested_table, odd_table, small_tables, valid_tables,
    wide_table,
)
from wordorder.joined import double_text, joined_name, readings
from wordorder.names import name
from wordorder.tables import english, limit


def short_table(many, letters, longest, seed):
    """A valid table with so many scale words, whose words are made by chance of few letters."""
    chance = Random(seed)
    words = {}
    while len(words) < 29 + many:
        words["".join(chance.choice(letters) for _ in range(chance.randint(1, longest)))] = True
    words = list(words)
    return (words[:20], words[20:28], words[28], words[29:])


def table_of(changes, scales=0):
    """A table of words of which none begins another one or goes on inside it, but for some words, by their numbers."""
    ones = ["q" + letter + "w" for letter in "abcdefghijklmnoprstu"]
    tens = ["v" + letter + "w" for letter in "abcdefgh"]
    hundred = "zyw"
    scale_words = ["y" + letter + "w" for letter in "abcdefghijklmnoprstu"][:scales]
    for number, word in changes.items():
        if number < 20:
            ones[number] = word
        elif number < 100:
            tens[number // 10 - 2] = word
        elif number == 100:
            hundred = word
        else:
            scale_words[len(str(number)) // 3 - 1] = word
    return (ones, tens, hundred, scale_words)


def odd_readings():
    """The table of the example in the document."""
    return (["a", "b", "c", "bx"] + list("efghijklmnopqrst"), ["ta", "tb", "tc", "td", "te", "tf", "tg", "th"], "x", [])


def by_text(names):
    """A dict from each joined name to the list of its numbers, by the names of 0, 1, 2 and on."""
    found = {}
    for number, text in enumerate(names):
        found.setdefault(text.replace(" ", ""), []).append(number)
    return found


def first_double(found):
    """The double text that comes first, by a dict of the numbers of all texts."""
    doubles = [(len(text), text) for text, numbers in found.items() if len(numbers) > 1]
    return min(doubles)[1] if doubles else None


def shortest_double(table, longest):
    """The double text that comes first, by joining all names of at most so many letters; None if there is none."""
    groups = [("", 0), *[(joined_name(table, group), group) for group in range(1, 1000)]]
    texts = [""]
    for scale in reversed(["", *table[3]]):
        behind = [text + scale for text, group in groups if group and len(text + scale) <= longest]
        texts += [text + more for text in texts for more in behind if len(text + more) <= longest]
    counts = Counter(texts)
    counts[""] = 0
    counts[table[0][0]] += 1
    doubles = [(len(text), text) for text, many in counts.items() if many > 1 and len(text) <= longest]
    return min(doubles)[1] if doubles else None


def names_of(table):
    """The names of all numbers of a table with no scale word, or with one."""
    return names_below_million(table) if table[3] else [name(table, number) for number in range(1000)]


class JoinedName(Checks, unittest.TestCase):
    def test_english(self):
        for number, text in ((0, "zero"), (1, "one"), (21, "twentyone"), (100, "onehundred"),
                             (1021, "onethousandtwentyone"),
                             (1000212, "onemilliontwohundredtwelve"), (80005, "eightythousandfive")):
            self.assertEqual(self.call(joined_name, english(2), number), text)
            self.assertEqual(self.call(joined_name, table=english(2), number=number), text)

    def test_as_the_names(self):
        for table in [*valid_tables(), *small_tables(), *great_tables()]:
            top = limit(table)
            for number in (0, 1, 19, 20, 99, 100, 345, 999, top // 3, top // 7, top // 1000, top - 1):
                self.assertEqual(joined_name(table, number), name(table, number).replace(" ", ""))

    def test_greatest_name(self):
        self.assertEqual(joined_name(english(1), 999999), "ninehundredninetyninethousandninehundredninetynine")

    def test_number_check(self):
        self.assert_number_check(joined_name)

    def test_table_check_comes_first(self):
        self.assert_table_check(joined_name, number=0)
        self.assert_table_check(joined_name, number=-1)


class Readings(Checks, unittest.TestCase):
    def test_against_joining_without_scale_words(self):
        tables = [*small_tables(), odd_readings(), *[short_table(0, "ab", 5, seed) for seed in range(6)],
                  *[short_table(0, "abc", 4, seed) for seed in range(6)]]
        several = 0
        for table in tables:
            found = by_text(names_of(table))
            for at, (text, numbers) in enumerate(found.items()):
                self.assertEqual(readings(table, text), numbers)
                several += len(numbers) > 1
                if at % 7 == 0:
                    # One letter less, and one more, make other texts.
                    for other in (text[:-1], text[1:], text + text[-1], text[0] + text):
                        self.assertEqual(readings(table, other), found.get(other, []))
        self.assertGreater(several, 500)

    def test_against_joining_with_one_scale_word(self):
        chance = Random(41)
        for table in (english(1), nested_table(1), short_table(1, "abc", 4, 42)):
            found = by_text(names_of(table))
            texts = list(found)
            most = max(texts, key=lambda text: len(found[text]))
            for text in [*chance.sample(texts, 150), most]:
                self.assertEqual(self.call(readings, table, text), found[text])
                for other in (text[:-1], text[1:], text[:3] + text[4:], text + chance.choice(text), text + text):
                    self.assertEqual(readings(table, other), found.get(other, []))

    def test_english(self):
        table = english(5)
        for number in (0, 1, 10, 60, 64, 100, 345, 1021, 21021, 999999, 10 ** 6, 10 ** 12 + 17, 10 ** 15 + 10 ** 9):
            text = joined_name(table, number)
            with self.subTest(text=text):
                self.assertEqual(self.call(readings, table, text), [number])
                self.assertEqual(self.call(readings, table=table, text=text), [number])
                for wrong in (text[:-1], text + "s", text + text[0], " " + text, text + " ", text.upper(),
                              text.capitalize(), text[:2] + " " + text[2:], text + "-", text + "zero"):
                    self.assertEqual(self.call(readings, table, wrong), [])

    def test_no_names(self):
        for table in [*valid_tables()[:2], *small_tables(), odd_table()]:
            for text in ("", " ", "  ", "~", "!", "0", "A", "-", "~" * 300, " " * 300, "Zero", "a b"):
                self.assertEqual(self.call(readings, table, text), [])
        for text in ("sixty four", "sixtyfour ", "hundred", "thousand", "onetwo", "twentyten", "zeroone", "onezero",
                     "onehundredhundred", "onethousandthousand", "tenhundred", "onemillion", "hundredone"):
            self.assertEqual(readings(english(1), text), [])

    def test_several_readings(self):
        table = odd_readings()
        for text, numbers in (("bx", [3, 100]), ("bxe", [104]), ("bxbx", [103]), ("cx", [200]), ("bxx", [300]),
                              ("tabx", [23]), ("bxtabx", [123]), ("x", []), ("a", [0]), ("", [])):
            self.assertEqual(readings(table, text), numbers)

    def test_readings_ascend(self):
        # Each word is made of one letter: all names of some letters in all read alike.
        table = (["a" * many for many in range(1, 21)], ["b" + "a" * many for many in range(8)], "c", ["d"])
        for text in ("a" * 7, "aacaaa", "aaaadaaaa", "baaaaadbaaaa", "baaaacaad"):
            found = readings(table, text)
            self.assertEqual(found, sorted(set(found)))
            for number in found:
                self.assertEqual(joined_name(table, number), text)
        self.assertEqual(readings(table, "a" * 7), [6])
        # One of the tens with or without a digit behind it: 22 is "b" and "aaa", 31 is "ba" and "aa", and 50 "baaa".
        self.assertEqual(readings(table, "baaa"), [22, 31, 50])
        self.assertEqual(readings(table, "baaadaaa"), [22002, 31002, 50002])

    def test_five_scale_words_and_long_texts(self):
        for table in (english(5), nested_table(5), short_table(5, "abc", 8, 43), short_table(5, "ab", 9, 44)):
            chance = Random(45)
            top = limit(table)
            for number in [top - 1, top // 3, top // 7, top // 9, *[chance.randrange(top) for _ in range(4)]]:
                text = joined_name(table, number)
                if len(text) <= 300:
                    found = readings(table, text)
                    self.assertIn(number, found)
                    self.assertEqual(found, sorted(set(found)))
                    for other in found:
                        self.assertEqual(joined_name(table, other), text)
                self.assertEqual(readings(table, (text * 9)[:300] + "Z"), [])

    def test_text_with_many_beginnings(self):
        # Nearly each place of the text can be reached in many ways, but no way leads to the end.
        table = (["a" * many for many in range(1, 21)], ["b" * many for many in range(1, 9)], "ab", ["ba", "bb" * 5])
        self.assertEqual(readings(table, "ab" * 140 + "c"), [])
        self.assertEqual(readings(table, "a" * 300), [])

    def test_new_lists(self):
        table = odd_readings()
        first = readings(table, "bx")
        first.append(7)
        self.assertEqual(readings(table, "bx"), [3, 100])

    def test_table_check(self):
        self.assert_table_check(readings, text="one")
        self.assert_table_check(readings, text="")


class DoubleText(Checks, unittest.TestCase):
    def test_usual_tables(self):
        for scales in range(11):
            self.assertIsNone(self.call(double_text, english(scales)))
            self.assertIsNone(self.call(double_text, table=english(scales)))
        for scales in range(4):
            self.assertIsNone(double_text(table_of({}, scales)))

    def test_new_words_in_usual_tables(self):
        ones, tens, hundred, scales = english(3)
        for part, at, word, text, numbers in (
                (0, 0, "sixtyfour", "sixtyfour", [0, 64]), (0, 0, "onehundred", "onehundred", [0, 100]),
                (0, 0, "fivemillion", "fivemillion", [0, 5000000]), (0, 9, "twentyone", "twentyone", [9, 21]),
                (3, 0, "tyone", "sixtyone", [61, 6000]), (3, 1, "teen", "sixteen", [16, 6000000]),
                (2, 0, "teen", "sixteen", [16, 600]), (2, 0, "ty", "sixty", [60, 600]),
                (3, 2, "hundredone", "onehundredone", [101, 10 ** 9]), (3, 1, "thousandten", "onethousandten", None)):
            parts = [list(ones), list(tens), hundred, list(scales)]
            if part == 2:
                parts[2] = word
            else:
                parts[part][at] = word
            table = tuple(parts)
            with self.subTest(word=word):
                told = double_text(table)
                if numbers is not None:
                    self.assertEqual((told, readings(table, told)), (text, numbers))
                else:
                    self.assertEqual(told, shortest_double(table, 15))

    def test_against_joining_without_scale_words(self):
        kinds = [("ab", 5), ("ab", 7), ("abc", 4), ("abc", 6), ("abcd", 5), ("abcde", 4), ("abcdef", 6)]
        told = []
        for letters, longest in kinds:
            for seed in range(12):
                table = short_table(0, letters, longest, seed)
                told.append(double_text(table))
                self.assertEqual(told[-1], first_double(by_text(names_of(table))))
        self.assertGreater(len([text for text in told if text is not None]), 10)
        self.assertIn(None, told)

    def test_other_tables_without_scale_words(self):
        for table in [*small_tables(), odd_table()[:3] + ([],), odd_readings()]:
            self.assertEqual(self.call(double_text, table), first_double(by_text(names_of(table))))

    def test_against_joining_with_one_scale_word(self):
        for letters, longest, seed in (("ab", 6, 1), ("abc", 5, 2)):
            table = short_table(1, letters, longest, seed)
            self.assertEqual(double_text(table), first_double(by_text(names_of(table))))

    def test_against_joining_short_names(self):
        chance = Random(46)
        found = []
        for scales in (1, 2, 3):
            for _ in range(30):
                letters, longest = chance.choice([("ab", 8), ("ab", 10), ("abc", 7), ("abcd", 5), ("abcdefgh", 3)])
                table = short_table(scales, letters, longest, chance.randrange(10 ** 6))
                told = double_text(table)
                if told is None or len(told) > 9:
                    self.assertIsNone(shortest_double(table, 9))
                else:
                    self.assertEqual(told, shortest_double(table, len(told)))
                    self.assertGreater(len(readings(table, told)), 1)
                found.append(told)
        self.assertGreater(len(set(found)), 20)

    def test_across_the_word_hundred(self):
        for changes, text, numbers in (
                ({0: "qbwzyw"}, "qbwzyw", [0, 100]), ({7: "qcwzyw"}, "qcwzyw", [7, 200]),
                ({19: "vawqbw"}, "vawqbw", [19, 21]), ({3: "qcwz", 100: "zyw", 0: "yw"}, None, []),
                ({2: "m", 3: "mz", 4: "zn", 5: "n", 100: "zz"}, None, []),
                ({2: "m", 20: "mz", 5: "zn", 15: "n", 100: "zz"}, "mzzn", [25, 215])):
            table = table_of(changes)
            with self.subTest(changes=changes):
                told = self.call(double_text, table)
                self.assertEqual(told, first_double(by_text(names_of(table))))
                if numbers:
                    self.assertEqual((told, readings(table, told)), (text, numbers))

    def test_across_a_scale_word(self):
        for scales in (1, 2, 3):
            for changes, text, numbers in (
                    ({7: "qbwyaw"}, "qbwyaw", [7, 1000]), ({0: "qbwyawqcw"}, "qbwyawqcw", [0, 1002]),
                    ({90: "qbwyaw"}, "qbwyaw", [90, 1000]), ({15: "qbwzywyaw"}, "qbwzywyaw", [15, 100000]),
                    # 2 begins 3, and the rest of 3 begins the scale word, behind which the names come together again.
                    ({2: "m", 3: "my", 1000: "yp", 4: "pqbw"}, None, None)):
                table = table_of(changes, scales)
                with self.subTest(scales=scales, changes=changes):
                    told = self.call(double_text, table)
                    if numbers is None:
                        self.assertEqual(told, shortest_double(table, 12))
                    else:
                        self.assertEqual((told, readings(table, told)), (text, numbers))

    def test_words_of_ten_letters(self):
        # One word is all the others together, but for the last one of them.
        table = table_of({11: "qbwzywqcww", 2: "qcww"}, 3)
        self.assertEqual((double_text(table), readings(table, "qbwzywqcww")), ("qbwzywqcww", [11, 102]))
        chance = Random(47)
        for _ in range(30):
            words = {}
            while len(words) < 32:
                words["".join(chance.choice("ab") for _ in range(chance.randint(5, 10)))] = True
            words = list(words)
            table = (words[:20], words[20:28], words[28], words[29:])
            told = double_text(table)
            if told is not None:
                self.assertGreater(len(readings(table, told)), 1)
                self.assertEqual(told, shortest_double(table, len(told)) if len(told) < 22 else told)

    def test_first_one_in_string_order(self):
        # Two texts of the same length have two readings.
        for first, second in (("a", "b"), ("b", "a")):
            table = table_of({1: first, 11: first + "zyw", 2: second, 12: second + "zyw"})
            self.assertEqual(double_text(table), "azyw")
        # A shorter one comes first even if it is greater.
        table = table_of({1: "a", 11: "azyw", 2: "z", 12: "zvaw", 20: "vaw"})
        self.assertEqual(double_text(table), "azyw")
        table = table_of({1: "aa", 11: "aazyw", 2: "z", 12: "zzyw"})
        self.assertEqual(double_text(table), "zzyw")

    def test_table_check(self):
        self.assert_table_check(double_text)


class Examples(unittest.TestCase):
    def test_examples_of_the_document(self):
        table = english(1)
        odd = odd_readings()
        told = [joined_name(table, 1021), readings(table, "sixtyfour"), double_text(table), double_text(odd),
                readings(odd, "bx")]
        self.assertEqual(told, ["onethousandtwentyone", [64], None, "bx", [3, 100]])


if __name__ == "__main__":
    unittest.main()
