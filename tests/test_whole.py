import unittest
from importlib import import_module
from inspect import getfile, signature
from itertools import islice
from pathlib import Path
from random import Random

from samples import (
    Checks, great_tables, mixed_table, nested_table, sorted_by_name, valid_tables, wide_table, wrong_lengths,
    wrong_words,
)
from wordorder.continuations import count_names, count_prefix, following
from wordorder.errors import (
    InvalidNumber, InvalidRange, InvalidTable, InvalidWords, NothingToUndo, OrderError, Unreadable,
)
from wordorder.hidden import HiddenTable, find
from wordorder.joined import double_text, joined_name, readings
from wordorder.letters import (
    count_with_letters, greatest_with_letters, least_with_letters, letters, ring, rings, total_letters,
)
from wordorder.lists import NameList
from wordorder.lost import count_fitting, fits, fitting, greatest_fitting, least_fitting
from wordorder.names import name, number_of, words_of
from wordorder.orders import parting_numbers, same_order
from wordorder.places import number_at, place
from wordorder.ranges import after, before, count_before, in_order, nth_in_range
from wordorder.readings import read_table
from wordorder.rearranged import (
    count_rearrangements, greatest_rearrangement, least_rearrangement, rearrangements,
)
from wordorder.tables import english, limit
from wordorder.texts import show_table

# What the interface of the document lists: the files, the functions with their arguments, and the classes.
FUNCTIONS = {
    "tables": ("english(scales)", "limit(table)"),
    "names": ("name(table, number)", "number_of(table, text)", "words_of(table, number)"),
    "continuations": ("following(table, words)", "count_names(table, words)", "count_prefix(table, text)"),
    "places": ("place(table, number, below=None)", "number_at(table, spot, below=None)"),
    "ranges": ("count_before(table, number, low, high)", "nth_in_range(table, spot, low, high)",
               "before(table, number, low, high)", "after(table, number, low, high)", "in_order(table, low, high)"),
    "letters": ("letters(table, number)", "count_with_letters(table, many, below=None)",
                "total_letters(table, below=None)", "least_with_letters(table, many)",
                "greatest_with_letters(table, many)", "ring(table, number)", "rings(table)"),
    "rearranged": ("count_rearrangements(table, number)", "least_rearrangement(table, number)",
                   "greatest_rearrangement(table, number)", "rearrangements(table, number)"),
    "lost": ("fits(table, pattern, number)", "count_fitting(table, pattern)", "least_fitting(table, pattern)",
             "greatest_fitting(table, pattern)", "fitting(table, pattern)"),
    "joined": ("joined_name(table, number)", "readings(table, text)", "double_text(table)"),
    "orders": ("same_order(first, second)", "parting_numbers(first, second)"),
    "hidden": ("find(hidden)",),
    "texts": ("show_table(table)",),
    "readings": ("read_table(text)",),
}
CLASSES = {
    "errors": ("OrderError", "InvalidTable", "InvalidNumber", "InvalidWords", "InvalidRange", "NothingToUndo",
               "Unreadable"),
    "hidden": ("HiddenTable",),
    "lists": ("NameList",),
}
METHODS = (
    (HiddenTable, ("__init__(self, table)", "comes_before(self, first, second)"), ("scales", "questions")),
    (NameList, ("__init__(self, table)", "add(self, *numbers)", "remove(self, number)", "undo(self)",
                "with_letters(self)", "__eq__(self, other)"), ("numbers", "names")),
)


def listed(action):
    """What a call returns, as a list if it is a walk."""
    return lambda *args: list(action(*args))


# All functions and classes that make the Table check, each with right arguments behind a table with one scale word.
TABLE_CHECKED = (
    (limit,), (name, 5), (number_of, "one"), (listed(words_of), 5), (following, []), (count_names, []),
    (count_prefix, "o"), (place, 5), (place, 5, 10), (number_at, 5), (number_at, 5, 10), (count_before, 5, 0, 9),
    (nth_in_range, 5, 0, 9), (before, 5, 0, 9), (after, 5, 0, 9), (listed(in_order), 0, 9), (letters, 5),
    (count_with_letters, 3), (count_with_letters, 3, 10), (total_letters,), (total_letters, 10),
    (least_with_letters, 3), (greatest_with_letters, 3), (ring, 5), (rings,), (count_rearrangements, 5),
    (least_rearrangement, 5), (greatest_rearrangement, 5), (listed(rearrangements), 5), (fits, [""], 5),
    (count_fitting, [""]), (least_fitting, [""]), (greatest_fitting, [""]), (listed(fitting), ["one"]),
    (joined_name, 5), (readings, "one"), (double_text,), (same_order, english(1)), (parting_numbers, english(1)),
    (HiddenTable,), (NameList,), (NameList.of_range, 0, 9),
)
# All functions that make the Number check, each with the arguments before and behind the number.
NUMBER_CHECKED = (
    (name, (), ()), (listed(words_of), (), ()), (count_before, (), (0, 9)), (before, (), (0, 9)), (after, (), (0, 9)),
    (letters, (), ()), (ring, (), ()), (count_rearrangements, (), ()), (least_rearrangement, (), ()),
    (greatest_rearrangement, (), ()), (listed(rearrangements), (), ()), (fits, ([""],), ()), (joined_name, (), ()),
    # A number that is not sorted, and places that do not exist.
    (place, (), ()), (number_at, (), ()), (place, (), (None,)), (number_at, (), (None,)),
)


class Interface(unittest.TestCase):
    def test_functions(self):
        for file, texts in FUNCTIONS.items():
            module = import_module("wordorder." + file)
            for text in texts:
                title = text.partition("(")[0]
                with self.subTest(file=file, text=text):
                    action = getattr(module, title)
                    self.assertEqual(title + str(signature(action)), text)
                    self.assertEqual(action.__module__, "wordorder." + file)
                    self.assertEqual(Path(getfile(action)).name, file + ".py")

    def test_classes(self):
        for file, titles in CLASSES.items():
            module = import_module("wordorder." + file)
            for title in titles:
                kind = getattr(module, title)
                self.assertIs(type(kind), type)
                self.assertEqual(kind.__module__, "wordorder." + file)

    def test_methods(self):
        for kind, texts, properties in METHODS:
            for text in texts:
                title = text.partition("(")[0]
                self.assertEqual(title + str(signature(vars(kind)[title])), text)
            for title in properties:
                self.assertIs(type(vars(kind)[title]), property)
        self.assertEqual(str(signature(NameList.of_range)), "(table, low, high)")
        self.assertIs(type(vars(NameList)["of_range"]), classmethod)

    def test_folder_holds_the_files_of_the_package_alone(self):
        folder = Path(getfile(import_module("wordorder")))
        found = {path.name for path in folder.parent.iterdir() if path.name != "__pycache__"}
        self.assertLessEqual({file + ".py" for file in [*FUNCTIONS, *CLASSES, "__init__"]}, found)
        self.assertEqual({name for name in found if not name.endswith(".py")}, set())


class Agreement(Checks, unittest.TestCase):
    def test_orders(self):
        for table in (english(2), nested_table(2), mixed_table(2, 91), *great_tables()):
            top = limit(table)
            chance = Random(92)
            for low in (0, 950, top // 3, top - 120):
                high = low + 119
                ordered = sorted_by_name(table, range(low, high + 1))
                words = NameList.of_range(table, low, high)
                self.assertEqual(list(in_order(table, low, high)), ordered)
                self.assertEqual(words.numbers, ordered)
                self.assertEqual(words.names, [name(table, number) for number in ordered])
                for spot in (0, 1, 37, 80, 118, 119):
                    number = ordered[spot]
                    self.assertEqual(nth_in_range(table, spot, low, high), number)
                    self.assertEqual(count_before(table, number, low, high), spot)
                    self.assertEqual(before(table, number, low, high), [None, *ordered][spot])
                    self.assertEqual(after(table, number, low, high), [*ordered, None][spot + 1])
                places = [place(table, number) for number in ordered[::13]]
                self.assertEqual(places, sorted(places))
                self.assertEqual([number_at(table, spot) for spot in places], ordered[::13])
                hidden = HiddenTable(table)
                for one, other in zip(ordered, ordered[1:]):
                    self.assertIs(hidden.comes_before(one, other), True)
                    self.assertIs(hidden.comes_before(other, one), False)
                number = chance.choice(ordered)
                self.assertEqual(words.remove(number), ordered.index(number))

    def test_first_numbers(self):
        for table in (english(2), *great_tables()):
            top = limit(table)
            first = list(islice(in_order(table, 0, top - 1), 200))
            self.assertEqual([number_at(table, spot) for spot in range(200)], first)
            self.assertEqual(list(islice(fitting(table, [""]), 200)), first)
            self.assertEqual(first, sorted_by_name(table, first))

    def test_names_lead_back(self):
        for table in (english(5), nested_table(5), mixed_table(20, 3)):
            chance = Random(93)
            for _ in range(30):
                number = chance.randrange(limit(table))
                text = name(table, number)
                words = list(words_of(table, number))
                self.assertEqual((number_of(table, text), text.split(" ")), (number, words))
                self.assertTrue(fits(table, words, number))
                self.assertEqual([action(table, words) for action in (least_fitting, greatest_fitting)], [number] * 2)
                self.assertEqual((count_fitting(table, words), list(fitting(table, words))), (1, [number]))
                self.assertEqual(following(table, words)[1], True)
                self.assertEqual(joined_name(table, number), text.replace(" ", ""))
                if len(table[3]) == 5:
                    self.assertIn(number, readings(table, joined_name(table, number)))

    def test_counts_of_beginnings(self):
        for table in (english(5), nested_table(20), mixed_table(20, 3)):
            chance = Random(94)
            for _ in range(30):
                words = list(words_of(table, chance.randrange(limit(table))))[:chance.randrange(1, 12)]
                many = count_names(table, words)
                self.assertEqual(count_fitting(table, [*words, ""]), many)
                self.assertEqual(count_prefix(table, " ".join(words) + " "), many - 1)
                nexts = following(table, words)[0]
                self.assertEqual(sum(count_names(table, [*words, word]) for word in nexts), many - 1)
                # The names that begin so stand side by side, the shortest one ahead.
                found = list(islice(fitting(table, [*words, ""]), 5))
                self.assertEqual(found[0], number_of(table, " ".join(words)))
                spot = place(table, found[0])
                self.assertEqual([number_at(table, spot + at) for at in range(len(found))], found)
                self.assertEqual(fits(table, [*words, ""], number_at(table, spot + many - 1)), True)
                if spot + many < limit(table):
                    self.assertEqual(fits(table, [*words, ""], number_at(table, spot + many)), False)

    def test_letters(self):
        for table in (english(1), nested_table(1), mixed_table(1, 95)):
            counted = {}
            for number in range(200):
                counted.setdefault(letters(table, number), []).append(number)
                self.assertEqual(letters(table, number), len(joined_name(table, number)))
            words = dict(NameList.of_range(table, 0, 199).with_letters())
            self.assertEqual(sorted(words), sorted(counted))
            for many, numbers in counted.items():
                self.assertEqual(sorted(words[many]), numbers)
                self.assertEqual(count_with_letters(table, many, 200), len(numbers))
                self.assertEqual(least_with_letters(table, many), numbers[0])
            self.assertEqual(total_letters(table, 200), sum(many * len(numbers) for many, numbers in counted.items()))

    def test_two_tables_of_the_same_order(self):
        for scales in (0, 1, 2, 20):
            table = wide_table(scales)
            ones, tens, _, scale_words = table
            # No scale word stands between these two words.
            other = (["zeroth", *ones[1:]], tens, "m", scale_words)
            self.assertIs(same_order(table, other), True)
            chance = Random(96)
            top = limit(table)
            for number in [0, 100, 999, top - 1, *[chance.randrange(top) for _ in range(15)]]:
                self.assertEqual(place(table, number), place(other, number))
                self.assertEqual(number_at(table, number), number_at(other, number))
                self.assertEqual(count_before(table, number, 3, top // 2), count_before(other, number, 3, top // 2))
            self.assertEqual(find(HiddenTable(table)), find(HiddenTable(other)))

    def test_two_tables_of_other_orders(self):
        for scales in (0, 1, 2, 20):
            first, second = mixed_table(scales, 97), mixed_table(scales, 98)
            one, other = parting_numbers(first, second)
            self.assertLess(place(first, one), place(first, other))
            self.assertGreater(place(second, one), place(second, other))
            self.assertEqual(HiddenTable(first).comes_before(one, other), True)
            self.assertEqual(HiddenTable(second).comes_before(one, other), False)

    def test_found_order_of_a_hidden_table(self):
        for table in (english(6), *great_tables()):
            order, _ = find(HiddenTable(table))
            behind_hundred = [100 + number if number < 100 else 100 * number for number in order if number > 0]
            self.assertEqual(behind_hundred, sorted_by_name(table, behind_hundred))

    def test_rearrangements_and_letters(self):
        table = english(3)
        for number in (102000, 50003, 1200340, 7008009):
            for other in rearrangements(table, number):
                self.assertEqual(letters(table, other), letters(table, number))
                self.assertEqual(sorted(words_of(table, other)), sorted(words_of(table, number)))

    def test_texts_of_tables(self):
        for table in (*valid_tables(), *great_tables()):
            again = read_table(show_table(table))
            self.assertIs(same_order(table, again), True)
            self.assertEqual(NameList.of_range(table, 0, 9), NameList.of_range(again, 0, 9))

    def test_values_that_were_returned_may_be_passed_on(self):
        table = english(10)
        many = count_fitting(table, [""])
        with self.assertRaises(InvalidNumber) as held:
            name(table, many)
        self.assertEqual(held.exception.value, limit(table))
        count = count_rearrangements(wide_table(20), int("123456" * 10))
        with self.assertRaises(OrderError):
            name(english(0), count)


class Errors(Checks, unittest.TestCase):
    def test_table_check_of_each_function(self):
        cases = [(wrong_lengths()[0], None), (wrong_lengths()[-1], None), *wrong_words()[::9]]
        for action, *others in TABLE_CHECKED:
            # With a right table the call succeeds.
            action(english(1), *others)
            for table, value in cases:
                with self.subTest(action=action, value=value):
                    self.assert_raises_exactly(InvalidTable, value, action, table, *others)
        for table, value in cases:
            for action in (same_order, parting_numbers):
                self.assert_raises_exactly(InvalidTable, value, action, english(1), table)

    def test_number_check_of_each_function(self):
        for action, ahead, behind in NUMBER_CHECKED:
            for number in (0, 5, 10 ** 6 - 1):
                action(english(1), *ahead, number, *behind)
            for wrong in (-1, 10 ** 6, -10 ** 70, 10 ** 70):
                with self.subTest(action=action, wrong=wrong):
                    self.assert_raises_exactly(InvalidNumber, wrong, action, english(1), *ahead, wrong, *behind)

    def test_each_other_error_of_each_function(self):
        table = english(1)
        words, hidden = NameList(table), HiddenTable(table)
        for kind, value, action, *args in (
                (InvalidNumber, -1, english, -1), (InvalidNumber, 11, english, 11),
                (Unreadable, "x", number_of, table, "x"), (Unreadable, "", number_of, table, ""),
                (InvalidWords, 1, following, table, ["one", "one"]), (InvalidWords, 0, count_names, table, ["x"]),
                (InvalidRange, 0, place, table, 5, 0), (InvalidRange, 10 ** 6 + 1, number_at, table, 5, 10 ** 6 + 1),
                (InvalidRange, 0, count_with_letters, table, 3, 0), (InvalidRange, -1, total_letters, table, -1),
                (InvalidNumber, 10, place, table, 10, 10), (InvalidNumber, 10, number_at, table, 10, 10),
                (InvalidRange, (5, 4), count_before, table, 5, 5, 4), (InvalidRange, (5, 4), before, table, 5, 5, 4),
                (InvalidRange, (5, 4), after, table, 5, 5, 4), (InvalidRange, (5, 4), nth_in_range, table, 0, 5, 4),
                (InvalidRange, (0, 10 ** 6), listed(in_order), table, 0, 10 ** 6),
                (InvalidRange, (-1, 3), NameList.of_range, table, -1, 3),
                (InvalidNumber, 10, nth_in_range, table, 10, 0, 9),
                (InvalidNumber, -1, hidden.comes_before, -1, 10 ** 6),
                (InvalidNumber, 10 ** 6, hidden.comes_before, 0, 10 ** 6), (InvalidNumber, -1, words.add, 5, -1, -2),
                (InvalidNumber, 5, words.remove, 5), (NothingToUndo, 0, words.undo),
                (InvalidTable, None, same_order, table, english(2)),
                (InvalidTable, None, parting_numbers, english(2), table),
                (Unreadable, "one two", read_table, "one two")):
            with self.subTest(action=action, value=value):
                self.assert_raises_exactly(kind, value, action, *args)


if __name__ == "__main__":
    unittest.main()
