"""Point 3: the error classes."""

import copy
import unittest

from squeezelists import errors
from squeezelists.errors import (
    InvalidCharacter,
    InvalidList,
    InvalidNumber,
    NothingToUndo,
    SqueezeError,
    Unreadable,
)

WITH_VALUE = [InvalidList, InvalidNumber, InvalidCharacter, NothingToUndo, Unreadable]
VALUES = [0, 3, -1, -10 ** 30, -7 ** 9000, '', 'a', '3, 3', None, 1.5, b'x', (1, 2), [], [1, [2]], {'a': 1}]


class ErrorsTest(unittest.TestCase):

    def test_one_argument_by_position(self):
        for kind in WITH_VALUE:
            for number, value in enumerate(VALUES):
                with self.subTest(kind=kind.__name__, number=number):
                    self.assertIs(kind(value).value, value)

    def test_one_argument_by_name(self):
        for kind in WITH_VALUE:
            for number, value in enumerate(VALUES):
                with self.subTest(kind=kind.__name__, number=number):
                    self.assertIs(kind(value=value).value, value)

    def test_no_other_number_of_arguments(self):
        for kind in WITH_VALUE:
            with self.subTest(kind=kind.__name__):
                self.assertRaises(TypeError, kind)
                self.assertRaises(TypeError, kind, 1, 2)
                self.assertRaises(TypeError, kind, 1, value=1)
                self.assertRaises(TypeError, kind, number=1)

    def test_each_class_is_constructed_by_itself(self):
        for kind in WITH_VALUE:
            with self.subTest(kind=kind.__name__):
                self.assertIn('__init__', vars(kind))

    def test_bases(self):
        self.assertEqual(SqueezeError.__bases__, (ValueError,))
        for kind in WITH_VALUE:
            with self.subTest(kind=kind.__name__):
                self.assertEqual(kind.__bases__, (SqueezeError,))

    def test_no_other_class_is_a_subclass_of_another_one(self):
        for kind in WITH_VALUE:
            for other in WITH_VALUE:
                with self.subTest(kind=kind.__name__, other=other.__name__):
                    self.assertEqual(issubclass(kind, other), kind is other)
            self.assertFalse(issubclass(SqueezeError, kind))

    def test_not_a_subclass_of_other_errors(self):
        for kind in [SqueezeError, *WITH_VALUE]:
            for other in [LookupError, IndexError, KeyError, TypeError, ArithmeticError, UnicodeError]:
                with self.subTest(kind=kind.__name__, other=other.__name__):
                    self.assertFalse(issubclass(kind, other))

    def test_there_are_six_classes(self):
        found = [kind for kind in vars(errors).values() if isinstance(kind, type)]
        self.assertCountEqual(found, [SqueezeError, *WITH_VALUE])
        for kind in found:
            self.assertEqual(kind.__module__, 'squeezelists.errors')

    def test_raised_and_caught(self):
        for kind in WITH_VALUE:
            for caught in [kind, SqueezeError, ValueError]:
                with self.subTest(kind=kind.__name__, caught=caught.__name__):
                    with self.assertRaises(caught) as held:
                        raise kind(5)
                    self.assertEqual(held.exception.value, 5)
                    self.assertIs(type(held.exception), kind)

    def test_value_of_each_object_is_its_own(self):
        first, second = InvalidList(1), InvalidList(2)
        self.assertEqual([first.value, second.value], [1, 2])
        self.assertFalse(hasattr(InvalidList, 'value'))

    def test_the_message_can_be_shown_whatever_the_value(self):
        for kind in WITH_VALUE:
            for number, value in enumerate(VALUES):
                with self.subTest(kind=kind.__name__, number=number):
                    self.assertTrue(str(kind(value)))

    def test_a_copy_has_the_value(self):
        for kind in WITH_VALUE:
            for error in [kind(7), kind(value=7)]:
                with self.subTest(kind=kind.__name__):
                    again = copy.copy(error)
                    self.assertIs(type(again), kind)
                    self.assertEqual(again.value, 7)

    def test_squeeze_error_is_an_error_of_its_own(self):
        with self.assertRaises(ValueError):
            raise SqueezeError
        with self.assertRaises(SqueezeError):
            raise SqueezeError('text')


if __name__ == '__main__':
    unittest.main()
