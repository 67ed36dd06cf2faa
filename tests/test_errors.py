import unittest

from wordorder import errors

OTHERS = ("InvalidTable", "InvalidNumber", "InvalidWords", "InvalidRange", "NothingToUndo", "Unreadable")


class Classes(unittest.TestCase):
    def test_base_is_a_direct_subclass_of_value_error(self):
        self.assertEqual(errors.OrderError.__bases__, (ValueError,))

    def test_others_are_direct_subclasses_of_the_base_alone(self):
        for title in OTHERS:
            with self.subTest(title=title):
                self.assertEqual(getattr(errors, title).__bases__, (errors.OrderError,))

    def test_no_other_class_has_a_subclass(self):
        kinds = [getattr(errors, title) for title in OTHERS]
        self.assertEqual(len(set(kinds)), len(OTHERS))
        for kind in kinds:
            for other in kinds:
                self.assertEqual(issubclass(kind, other), kind is other)
            self.assertEqual(kind.__subclasses__(), [])

    def test_there_are_no_more_classes(self):
        kinds = [title for title, kind in vars(errors).items() if isinstance(kind, type)]
        self.assertEqual(sorted(kinds), sorted([*OTHERS, "OrderError"]))

    def test_classes_are_defined_in_the_file(self):
        for title in ("OrderError", *OTHERS):
            self.assertEqual(getattr(errors, title).__module__, "wordorder.errors")


class Values(unittest.TestCase):
    def test_value_of_every_kind_by_position_and_by_name(self):
        values = ("word", "", "two words", 0, -1, 10 ** 70, (3, 5), (), None, True, ["a", "b"], {"a": 1}, b"a")
        for title in OTHERS:
            kind = getattr(errors, title)
            for value in values:
                with self.subTest(title=title, value=value):
                    self.assertIs(kind(value).value, value)
                    self.assertIs(kind(value=value).value, value)

    def test_one_argument_neither_less_nor_more(self):
        for title in OTHERS:
            kind = getattr(errors, title)
            with self.subTest(title=title):
                self.assertRaises(TypeError, kind)
                self.assertRaises(TypeError, kind, 1, 2)

    def test_caught_as_base_and_as_value_error(self):
        for title in OTHERS:
            kind = getattr(errors, title)
            for base in (kind, errors.OrderError, ValueError):
                with self.subTest(title=title, base=base):
                    with self.assertRaises(base) as held:
                        raise kind("x")
                    self.assertEqual(held.exception.value, "x")

    def test_two_errors_keep_their_own_values(self):
        first, second = errors.InvalidNumber(1), errors.InvalidNumber(2)
        self.assertEqual((first.value, second.value), (1, 2))


if __name__ == "__main__":
    unittest.main()
