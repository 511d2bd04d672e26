"""Promise 00.3 and the interface of dotfield.errors."""

import inspect
import unittest

from dotfield import errors
from dotfield.bits import BitReader, BitWriter
from dotfield.errors import DotfieldError

DERIVED = [
    "Truncated", "InvalidMode", "InvalidCount", "TooLong", "NotASymbol", "InvalidVersion",
    "InvalidFormat", "TooDamaged", "AmbiguousTurn", "NotAPicture", "InvalidSequence",
]


class ErrorClasses(unittest.TestCase):

    def test_the_base_class_is_derived_from_value_error_alone(self):
        self.assertEqual(DotfieldError.__bases__, (ValueError,))

    def test_each_error_class_is_derived_directly_from_the_base_class_alone(self):
        for name in DERIVED:
            with self.subTest(name):
                self.assertEqual(getattr(errors, name).__bases__, (DotfieldError,))

    def test_there_are_no_other_error_classes(self):
        found = {name for name, _ in inspect.getmembers(errors, inspect.isclass)}
        self.assertEqual(found, {"DotfieldError", *DERIVED})

    def test_no_two_names_stand_for_one_class(self):
        self.assertEqual(len({getattr(errors, name) for name in DERIVED}), len(DERIVED))

    def test_place_and_name(self):
        for name in ["DotfieldError", *DERIVED]:
            for place in (0, 1, 7, 23648):
                with self.subTest(name, place=place):
                    error = getattr(errors, name)(place)
                    self.assertIs(type(error.place), int)
                    self.assertEqual(error.place, place)
                    self.assertIs(type(error.name), str)
                    self.assertEqual(error.name, name)

    def test_place_and_name_are_set_on_each_object(self):
        for name in ["DotfieldError", *DERIVED]:
            with self.subTest(name):
                self.assertLessEqual({"place", "name"}, set(vars(getattr(errors, name)(3))))

    def test_place_may_be_passed_by_keyword(self):
        for name in ["DotfieldError", *DERIVED]:
            with self.subTest(name):
                self.assertEqual(getattr(errors, name)(place=9).place, 9)

    def test_place_is_needed(self):
        for name in ["DotfieldError", *DERIVED]:
            with self.subTest(name):
                with self.assertRaises(TypeError):
                    getattr(errors, name)()

    def test_an_error_keeps_its_own_place(self):
        first = errors.Truncated(4)
        second = errors.Truncated(5)
        self.assertEqual([first.place, second.place], [4, 5])

    def test_each_is_caught_by_its_own_name_and_by_those_above_it(self):
        for name in DERIVED:
            own = getattr(errors, name)
            for caught in (own, DotfieldError, ValueError):
                with self.subTest(name, caught=caught.__name__):
                    with self.assertRaises(caught) as found:
                        raise own(2)
                    self.assertIs(type(found.exception), own)
                    self.assertEqual(found.exception.place, 2)

    def test_none_is_caught_by_the_name_of_another(self):
        for name in DERIVED:
            for other in DERIVED:
                if name != other:
                    with self.subTest(name, other=other):
                        self.assertNotIsInstance(getattr(errors, name)(0), getattr(errors, other))


class Equality(unittest.TestCase):

    def objects(self):
        made = [getattr(errors, name)(0) for name in ["DotfieldError", *DERIVED]]
        return made + [BitWriter(), BitReader([])]

    def test_objects_of_different_classes_are_not_equal(self):
        for first in self.objects():
            for second in self.objects():
                if type(first) is not type(second):
                    with self.subTest(first=type(first).__name__, second=type(second).__name__):
                        self.assertFalse(first == second)
                        self.assertTrue(first != second)

    def test_no_object_is_equal_to_a_plain_value(self):
        plain = [0, 1, "", "Truncated", b"", None, True, False, [], (), {}, set(), (0,), [0],
                 ValueError(0), ValueError(), Exception(0)]
        for made in self.objects():
            for value in plain + [getattr(made, "name", "-"), vars(made)]:
                with self.subTest(type(made).__name__, value=value):
                    self.assertFalse(made == value)
                    self.assertFalse(value == made)
                    self.assertTrue(made != value)

    def test_written_bits_are_equal_to_no_list(self):
        writer = BitWriter()
        writer.write(3, 5)
        self.assertFalse(writer == [1, 0, 1])
        self.assertFalse(writer == [160])
        self.assertFalse(BitReader([1, 0, 1]) == [1, 0, 1])
        self.assertFalse(BitReader([1, 0, 1]) == 0)


if __name__ == "__main__":
    unittest.main()
