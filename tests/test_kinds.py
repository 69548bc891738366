"""What point 2 says of integers, NUMBERS, tuples of them, and WAYS."""

import unittest

from everymoment.errors import BadNumbers, BadWay, NoDoor, NoField
from everymoment.kinds import check_door, check_field, check_numbers, check_way, is_between, is_integer, is_number
from samples import STACK, odd_values, raised


class IntegersTest(unittest.TestCase):

    def test_integers(self):
        for value in (0, 1, -1, 9999, -10000, 123456789):
            self.assertIs(is_integer(value), True)

    def test_bools_and_all_else_are_no_integers(self):
        for value in odd_values():
            if type(value) is not int:
                with self.subTest(value=value):
                    self.assertIs(is_integer(value), False)
                    self.assertIs(is_between(value, -5, 5), False)
                    self.assertIs(is_number(value), False)

    def test_between(self):
        self.assertEqual([is_between(value, 2, 4) for value in (1, 2, 3, 4, 5)], [False, True, True, True, False])

    def test_numbers(self):
        found = [is_number(value) for value in (-10000, -9999, 0, 9999, 10000)]
        self.assertEqual(found, [False, True, True, True, False])


class TakenValuesTest(unittest.TestCase):

    def test_numbers_of_a_call(self):
        for numbers in ((), (0,), (9999, -9999), (1, 2, 3)):
            self.assertIsNone(check_numbers(numbers, len(numbers)))

    def test_no_numbers_of_a_call(self):
        for numbers in ((1,), (1, 2, 3), [1, 2], (1, True), (False, 1), (1, 10000), (-10000, 1), (1, '1'), (1, None),
                        ((1,), 2), '12', None, 2, {1: 2, 2: 3}, (), (1, ('record', 0)), (1, 2.0)):
            with self.subTest(numbers=numbers):
                self.assertIs(raised(self, BadNumbers, check_numbers, numbers, 2), numbers)

    def test_doors_and_fields(self):
        self.assertIsNone(check_door(STACK, 'head'))
        self.assertIsNone(check_field(STACK, 'key'))
        self.assertIsNone(check_field(STACK, 'after'))
        for value in odd_values() + ['push', 'key']:
            self.assertIs(raised(self, NoDoor, check_door, STACK, value), value)
        for value in odd_values() + ['push', 'head']:
            self.assertIs(raised(self, NoField, check_field, STACK, value), value)

    def test_ways(self):
        for way in (('head',), ('head', 'key'), ('head', 'after', 'after'), ('head',) + ('after',) * 200):
            self.assertIsNone(check_way(STACK, way))

    def test_no_ways(self):
        wrong = [value for value in odd_values() if value != ('head',)]
        wrong += [('key',), ('head', 'head'), ('push',), ('head', 'key', 'push'), ('head', 'after', None),
                  ('head', ['key']), (['head'],), (True,), ('head', 0), ('head',) + ('after',) * 201,
                  ['head', 'key'], 'head', ('head', ('key',)), ({}, 'key'), ('head', STACK), (STACK,)]
        for way in wrong:
            with self.subTest(way=way):
                self.assertIs(raised(self, BadWay, check_way, STACK, way), way)


if __name__ == '__main__':
    unittest.main()
