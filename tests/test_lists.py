import unittest
from copy import deepcopy
from itertools import islice
from random import Random

from samples import (
    Checks, great_tables, nested_table, numbers_around, odd_table, small_tables, sorted_by_name, valid_tables,
    wide_table,
)
from wordorder.errors import InvalidNumber, InvalidRange, InvalidTable, NothingToUndo
from wordorder.letters import letters
from wordorder.lists import NameList
from wordorder.names import name
from wordorder.ranges import in_order
from wordorder.tables import english, limit


class Derived(NameList):
    """A class that adds something of its own."""

    def first(self):
        return self.numbers[0]


def made(table, *numbers):
    found = NameList(table)
    found.add(*numbers)
    return found


class ListChecks(Checks):
    def assert_holds(self, words, table, numbers):
        """The list has exactly these numbers, and their names, in alphabetical order."""
        ordered = sorted_by_name(table, set(numbers))
        self.assertEqual(words.numbers, ordered)
        self.assertEqual(words.names, [name(table, number) for number in ordered])
        self.assertEqual(words.names, sorted(words.names))

    def assert_fails(self, kind, value, words, action, *args, **named):
        """The call raises this error, and the list stays as it was."""
        before = (words.numbers, words.names)
        self.assert_raises_exactly(kind, value, action, *args, **named)
        self.assertEqual((words.numbers, words.names), before)


class Add(ListChecks, unittest.TestCase):
    def test_empty_list(self):
        for table in [*valid_tables(), *great_tables()]:
            words = NameList(table=table)
            self.assertEqual((words.numbers, words.names, list(words.with_letters())), ([], [], []))

    def test_none_one_and_several(self):
        for table in [english(2), nested_table(2), odd_table(), *great_tables()]:
            top = limit(table)
            words = NameList(table)
            held = []
            for numbers in ((), (7,), (3, 10, 0), (7,), (8, 8, 8), (10, 3), (top - 1, 0, top // 3), (),
                            (999, 1000, 100)):
                self.assertIsNone(words.add(*numbers))
                held += numbers
                self.assert_holds(words, table, held)

    def test_in_alphabetical_order_after_each_call(self):
        chance = Random(71)
        for table in [english(3), *great_tables(), *small_tables()]:
            words, held = NameList(table), set()
            for _ in range(50):
                numbers = [chance.randrange(limit(table)) for _ in range(chance.randrange(4))]
                numbers += [chance.randrange(30) for _ in range(chance.randrange(3))]
                words.add(*numbers)
                held.update(numbers)
                self.assert_holds(words, table, held)

    def test_many_numbers(self):
        table = english(2)
        words = NameList(table)
        words.add(*range(0, 30000, 7))
        self.assert_holds(words, table, range(0, 30000, 7))

    def test_wrong_number_behind_right_ones(self):
        for table in valid_tables():
            top = limit(table)
            words = made(table, 5, 7)
            for wrong in numbers_around(top):
                for numbers in ((wrong,), (1, 2, wrong), (wrong, 1), (1, wrong, -7, top + 9), (5, 5, wrong, wrong),
                                (top - 1, wrong, 3)):
                    self.assert_fails(InvalidNumber, wrong, words, words.add, *numbers)
            words.undo()
            self.assertEqual(words.numbers, [])

    def test_table_check(self):
        self.assert_table_check(NameList)


class Remove(ListChecks, unittest.TestCase):
    def test_returns_the_place(self):
        for table in [english(2), nested_table(2), odd_table(), *great_tables()]:
            chance = Random(72)
            words = made(table, *range(0, 40), limit(table) - 1)
            held = {*range(0, 40), limit(table) - 1}
            for number in chance.sample(sorted(held), len(held)):
                spot = sorted_by_name(table, held).index(number)
                self.assertEqual(words.remove(number), spot)
                held.remove(number)
                self.assert_holds(words, table, held)

    def test_english(self):
        words = made(english(1), 1, 2, 3, 4)
        self.assertEqual(words.numbers, [4, 1, 3, 2])
        self.assertEqual([words.remove(3), words.remove(4), words.remove(2), words.remove(1)], [2, 0, 1, 0])
        self.assertEqual(words.numbers, [])

    def test_number_that_is_not_there(self):
        for table in valid_tables():
            top = limit(table)
            for numbers in ((), (5,), (0, 3, top - 1)):
                words = made(table, *numbers)
                for wrong in (7, 10, top - 2, *numbers_around(top)):
                    self.assert_fails(InvalidNumber, wrong, words, words.remove, wrong)
        words = made(english(1), 4, 5)
        words.remove(4)
        self.assert_fails(InvalidNumber, 4, words, words.remove, 4)

    def test_added_again(self):
        words = made(english(1), 4, 5)
        for _ in range(3):
            self.assertEqual(words.remove(4), 1)
            self.assertIsNone(words.add(4))
            self.assertEqual(words.numbers, [5, 4])


class Undo(ListChecks, unittest.TestCase):
    def test_nothing_to_undo(self):
        words = NameList(english(1))
        self.assert_fails(NothingToUndo, 0, words, words.undo)
        words.add(1)
        self.assertIsNone(words.undo())
        self.assert_fails(NothingToUndo, 0, words, words.undo)
        self.assert_fails(NothingToUndo, 0, words, words.undo)

    def test_only_what_the_call_added_goes(self):
        table = english(1)
        words = made(table, 1, 2)
        words.add(2, 3, 3, 1, 4)
        self.assert_holds(words, table, [1, 2, 3, 4])
        words.undo()
        self.assert_holds(words, table, [1, 2])
        words.undo()
        self.assert_holds(words, table, [])

    def test_add_that_changed_nothing(self):
        table = english(1)
        words = made(table, 1, 2)
        words.add()
        words.add(2, 1)
        for _ in range(2):
            words.undo()
            self.assert_holds(words, table, [1, 2])
        words.undo()
        self.assert_holds(words, table, [])
        self.assert_fails(NothingToUndo, 0, words, words.undo)

    def test_remove(self):
        table = nested_table(1)
        words = made(table, 1, 2, 3)
        words.remove(2)
        words.undo()
        self.assert_holds(words, table, [1, 2, 3])
        words.remove(1)
        words.remove(3)
        words.undo()
        self.assert_holds(words, table, [2, 3])
        words.undo()
        self.assert_holds(words, table, [1, 2, 3])

    def test_several_up_to_the_first_call(self):
        for table in [english(2), *great_tables()]:
            chance = Random(73)
            words = NameList(table)
            states = [[]]
            for _ in range(40):
                if states[-1] and chance.random() < 0.4:
                    number = chance.choice(states[-1])
                    words.remove(number)
                    states.append([other for other in states[-1] if other != number])
                else:
                    numbers = [chance.randrange(limit(table)) for _ in range(chance.randrange(4))]
                    words.add(*numbers)
                    states.append(sorted_by_name(table, {*states[-1], *numbers}))
            while len(states) > 1:
                self.assertEqual(words.numbers, states.pop())
                self.assertIsNone(words.undo())
            self.assertEqual(words.numbers, [])
            self.assert_fails(NothingToUndo, 0, words, words.undo)

    def test_calls_after_undo(self):
        table = english(1)
        words = made(table, 1)
        words.add(2)
        words.undo()
        words.add(3)
        self.assert_holds(words, table, [1, 3])
        words.undo()
        self.assert_holds(words, table, [1])
        words.undo()
        self.assert_fails(NothingToUndo, 0, words, words.undo)

    def test_calls_that_raised_errors_are_not_taken_back(self):
        table = english(1)
        words = made(table, 1)
        words.add(2)
        for action, wrong in ((words.add, -1), (words.add, 10 ** 6), (words.remove, 7), (words.remove, -1)):
            with self.assertRaises(InvalidNumber):
                action(wrong)
        words.undo()
        self.assert_holds(words, table, [1])
        with self.assertRaises(InvalidNumber):
            words.add(5, -1)
        words.undo()
        self.assert_holds(words, table, [])
        with self.assertRaises(InvalidNumber):
            words.remove(1)
        self.assert_fails(NothingToUndo, 0, words, words.undo)

    def test_reading_is_not_taken_back(self):
        words = made(english(1), 1, 2)
        words.remove(1)
        self.assertEqual((words.numbers, words.names, list(words.with_letters())), ([2], ["two"], [(3, [2])]))
        words.undo()
        self.assertEqual(words.numbers, [1, 2])


class NewLists(ListChecks, unittest.TestCase):
    def test_numbers_and_names(self):
        words = made(english(1), 1, 2, 3)
        for title, wanted in (("numbers", [1, 3, 2]), ("names", ["one", "three", "two"])):
            told = getattr(words, title)
            self.assertIsNot(getattr(words, title), told)
            told.append("more")
            told[0] = "changed"
            self.assertEqual(getattr(words, title), wanted)
            getattr(words, title).clear()
            self.assertEqual(getattr(words, title), wanted)
        words.undo()
        self.assertEqual(words.numbers, [])

    def test_list_that_was_returned_stays(self):
        words = made(english(1), 1, 2, 3)
        before = words.numbers
        words.add(4)
        words.remove(1)
        self.assertEqual(before, [1, 3, 2])
        words.undo()
        words.undo()
        self.assertEqual((before, words.numbers), ([1, 3, 2], [1, 3, 2]))

    def test_table_changed_afterwards(self):
        table = english(2)
        words = NameList(table)
        ranged = NameList.of_range(table, 0, 9)
        table[0][8] = "zzz"
        table[1].clear()
        table[3].append("more")
        words.add(8, 1, 20, 10 ** 9 - 1)
        self.assert_holds(words, english(2), [8, 1, 20, 10 ** 9 - 1])
        self.assert_holds(ranged, english(2), range(10))
        self.assert_fails(InvalidNumber, 10 ** 9, words, words.add, 10 ** 9)
        self.assertEqual(list(words.with_letters())[0], (3, [1]))
        self.assertEqual(ranged, NameList.of_range(english(2), 0, 9))

    def test_table_stays_the_same(self):
        for table in valid_tables():
            before = deepcopy(table)
            words = NameList(table)
            words.add(3, 1, 2)
            words.remove(1)
            words.undo()
            list(words.with_letters())
            NameList.of_range(table, 0, 99)
            self.assertEqual(table, before)

    def test_two_lists_are_apart(self):
        first, second = NameList(english(1)), NameList(english(1))
        first.add(1)
        second.add(2, 3)
        second.remove(3)
        self.assertEqual((first.numbers, second.numbers), ([1], [2]))
        first.undo()
        self.assertEqual((first.numbers, second.numbers), ([], [2]))


class OfRange(ListChecks, unittest.TestCase):
    def test_ranges(self):
        for table in [english(2), nested_table(3), *great_tables()]:
            top = limit(table)
            for low, high in ((0, 0), (7, 7), (0, 99), (1, 4), (900, 1099), (999, 1000), (999, 999), (1000, 1000),
                              (999900, 1000099), (top - 1, top - 1), (top - 200, top - 1), (top - 2, top - 1)):
                with self.subTest(low=low, high=high):
                    words = self.call(NameList.of_range, table, low, high)
                    self.assert_holds(words, table, range(low, high + 1))
                    self.assertEqual(words.numbers, list(in_order(table, low, high)))
                    self.assertEqual(NameList.of_range(table=table, low=low, high=high), words)

    def test_all_numbers_of_small_tables(self):
        for table in small_tables():
            self.assert_holds(NameList.of_range(table, 0, 199), table, range(200))
            self.assert_holds(NameList.of_range(table, 800, 999), table, range(800, 1000))

    def test_undo(self):
        words = NameList.of_range(english(1), 0, 9)
        self.assert_fails(NothingToUndo, 0, words, words.undo)
        words.add(10, 5)
        self.assertEqual(words.remove(8), 0)
        words.undo()
        words.undo()
        self.assert_holds(words, english(1), range(10))
        self.assert_fails(NothingToUndo, 0, words, words.undo)

    def test_class_on_which_it_is_called(self):
        self.assertIs(type(NameList.of_range(english(1), 0, 9)), NameList)
        derived = Derived.of_range(english(1), 0, 9)
        self.assertIs(type(derived), Derived)
        self.assertEqual(derived.first(), 8)
        derived.add(18)
        self.assert_holds(derived, english(1), [*range(10), 18])
        derived.undo()
        self.assert_fails(NothingToUndo, 0, derived, derived.undo)
        # Called on an object, it is called on the class of this object.
        self.assertIs(type(derived.of_range(english(1), 1, 1)), Derived)

    def test_range_check(self):
        for table in valid_tables():
            top = limit(table)
            for low, high in ((-1, 0), (-1, 5), (0, top), (top, top), (top - 1, top), (2, 1), (999, 0), (5, -1),
                              (-3, -2), (top, 0), (0, 10 ** 70), (-10 ** 70, 3), (-10 ** 70, 10 ** 70)):
                with self.subTest(low=low, high=high):
                    self.assert_raises_exactly(InvalidRange, (low, high), NameList.of_range, table, low, high)
                    named = {"table": table, "low": low, "high": high}
                    self.assert_raises_exactly(InvalidRange, (low, high), NameList.of_range, **named)
                    self.assert_raises_exactly(InvalidRange, (low, high), Derived.of_range, table, low, high)

    def test_table_check_comes_first(self):
        self.assert_table_check(NameList.of_range, low=0, high=9)
        self.assert_table_check(NameList.of_range, low=9, high=0)
        self.assert_table_check(Derived.of_range, low=-1, high=10 ** 70)


class Equality(ListChecks, unittest.TestCase):
    def assert_equal_both_ways(self, first, second):
        for one, other in ((first, second), (second, first)):
            self.assertIs(one == other, True)
            self.assertIs(one != other, False)

    def assert_different_both_ways(self, first, second):
        for one, other in ((first, second), (second, first)):
            self.assertIs(one == other, False)
            self.assertIs(one != other, True)

    def test_same_words_in_other_lists(self):
        for table in [*valid_tables(), *great_tables()]:
            self.assert_equal_both_ways(NameList(table), NameList(deepcopy(table)))
            self.assert_equal_both_ways(made(table, 1, 2, 3), made(deepcopy(table), 3, 2, 1))

    def test_other_calls(self):
        table = english(1)
        plain = made(table, 1, 2, 3)
        others = [NameList.of_range(table, 1, 3), Derived.of_range(table, 1, 3), made(table, 3, 3, 2, 1, 1)]
        one_by_one = NameList(english(1))
        for number in (2, 3, 1, 2):
            one_by_one.add(number)
        others.append(one_by_one)
        undone = made(table, 1, 2)
        undone.add(3)
        undone.add(4, 5)
        undone.undo()
        undone.remove(1)
        undone.undo()
        others.append(undone)
        removed = made(table, 1, 2, 3, 4)
        removed.remove(4)
        others.append(removed)
        for other in others:
            self.assert_equal_both_ways(plain, other)
            self.assert_equal_both_ways(other, other)

    def test_other_numbers(self):
        table = english(1)
        words = made(table, 1, 2, 3)
        for numbers in ((), (1,), (1, 2), (1, 2, 3, 4), (1, 2, 4), (0, 1, 2, 3)):
            self.assert_different_both_ways(words, made(table, *numbers))
        other = made(table, 1, 2, 3)
        other.add(4)
        self.assert_different_both_ways(words, other)
        other.undo()
        self.assert_equal_both_ways(words, other)

    def test_other_tables(self):
        ones, tens, hundred, scales = english(2)
        for table in ((["nought", *ones[1:]], tens, hundred, scales), ([*ones[:19], "other"], tens, hundred, scales),
                      (ones, [*tens[:7], "nonante"], hundred, scales), (ones, tens, "hundreds", scales),
                      (ones, tens, hundred, ["thousand", "mille"]), (ones, tens, hundred, ["thousand"]),
                      (ones, tens, hundred, []), (ones, tens, hundred, ["million", "thousand"]),
                      (ones, tens, hundred, [*scales, "billion"])):
            for numbers in ((), (1, 2, 3)):
                self.assert_different_both_ways(made(english(2), *numbers), made(table, *numbers))

    def test_never_equal_to_anything_else(self):
        class Always:
            """Something that is equal to all things."""

            def __eq__(self, other):
                return True

        words = made(english(1), 1, 2)
        for other in (words.numbers, words.names, tuple(words.numbers), [], (), "", "one", None, 0, 2, {}, object(),
                      english(1), NameList, True, Derived):
            self.assert_different_both_ways(words, other)
            self.assert_different_both_ways(NameList(english(0)), other)
        self.assertIs(words == Always(), False)

    def test_derived_class(self):
        plain, derived = made(english(1), 1, 2), Derived(english(1))
        self.assert_different_both_ways(plain, derived)
        derived.add(2, 1)
        self.assert_equal_both_ways(plain, derived)


class WithLetters(ListChecks, unittest.TestCase):
    def wanted(self, table, numbers):
        """The tuples for numbers that are in alphabetical order."""
        found = {}
        for number in numbers:
            found.setdefault(len(name(table, number).replace(" ", "")), []).append(number)
        return sorted(found.items())

    def test_against_the_names(self):
        chance = Random(74)
        for table in [english(3), nested_table(3), odd_table(), *great_tables(), *small_tables()]:
            words = NameList(table)
            for _ in range(6):
                self.assertEqual(list(words.with_letters()), self.wanted(table, words.numbers))
                words.add(*[chance.randrange(limit(table)) for _ in range(10)])
                words.add(*[chance.randrange(50) for _ in range(5)])
            for many, numbers in words.with_letters():
                self.assertEqual({letters(table, number) for number in numbers}, {many})

    def test_english(self):
        words = NameList.of_range(english(1), 0, 10)
        told = list(words.with_letters())
        self.assertEqual(told, [(3, [1, 6, 10, 2]), (4, [5, 4, 9, 0]), (5, [8, 7, 3])])
        self.assertEqual([(type(item), type(item[1])) for item in told], [(tuple, list)] * 3)

    def test_yielded_list_is_changed(self):
        words = NameList.of_range(english(1), 0, 10)
        for _, numbers in words.with_letters():
            numbers.clear()
        self.assertEqual(list(words.with_letters()), [(3, [1, 6, 10, 2]), (4, [5, 4, 9, 0]), (5, [8, 7, 3])])
        self.assertEqual(len(words.numbers), 11)

    def test_two_walks_at_the_same_time(self):
        words = NameList.of_range(english(1), 0, 10)
        first, second = words.with_letters(), words.with_letters()
        told = [next(first)[0], next(second)[0], next(second)[0], next(first)[0], next(first)[0], next(second)[0]]
        self.assertEqual(told, [3, 3, 4, 4, 5, 5])
        self.assertEqual((list(first), list(second)), ([], []))
        for (_, one), (_, other) in zip(words.with_letters(), words.with_letters()):
            self.assertEqual(one, other)
            self.assertIsNot(one, other)

    def test_one_walk_within_another(self):
        words = NameList.of_range(english(1), 0, 10)
        told = [(one, other) for one, _ in words.with_letters() for other, _ in words.with_letters()]
        self.assertEqual(told, [(one, other) for one in (3, 4, 5) for other in (3, 4, 5)])

    def test_walk_stops_early(self):
        words = NameList.of_range(english(1), 0, 10)
        self.assertEqual(list(islice(words.with_letters(), 1)), [(3, [1, 6, 10, 2])])
        for many, numbers in words.with_letters():
            self.assertEqual((many, numbers), (3, [1, 6, 10, 2]))
            break
        # The list may be changed once a walk has stopped.
        words.remove(10)
        self.assertEqual(list(islice(words.with_letters(), 1)), [(3, [1, 6, 2])])

    def test_empty_list(self):
        words = NameList(wide_table(20))
        self.assertEqual(list(words.with_letters()), [])


class Errors(unittest.TestCase):
    def test_no_object_of_a_wrong_table(self):
        wrong = (*english(1)[:3], ["thousand", "X"])
        for action in (lambda: NameList(wrong), lambda: NameList.of_range(wrong, 5, 3)):
            with self.assertRaises(InvalidTable) as held:
                action()
            self.assertEqual(held.exception.value, "X")

    def test_properties_are_not_assigned(self):
        words = made(english(1), 1)
        for title in ("numbers", "names"):
            with self.assertRaises(AttributeError):
                setattr(words, title, [])


class Examples(unittest.TestCase):
    def test_examples_of_the_document(self):
        words = NameList.of_range(english(0), 1, 4)
        words.add(10, 4)
        spot = words.remove(1)
        told = [words.numbers, words.names, spot, list(words.with_letters())]
        self.assertEqual(told, [[4, 10, 3, 2], ["four", "ten", "three", "two"], 1, [(3, [10, 2]), (4, [4]), (5, [3])]])


if __name__ == "__main__":
    unittest.main()
