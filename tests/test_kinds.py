"""What point 2 says of integers, NUMBERS, tuples of them, and WAYS."""

import unittest

from everymoment.errors import BadMoment, BadNumbers, BadSpare, BadWay, NoDoor, NoField
from everymoment.kinds import (
    are_cells, check_door, check_field, check_moment, check_numbers, check_spare, check_way, is_ascending, is_between,
    is_cell, is_integer, is_number, is_way)
from samples import STACK, odd_values, raised


class IntegersTest(unittest.TestCase):

    def test_integers(self):
        for value in (0, 1, -1, 9999, -10000, 123456789):
            self.assertIs(is_integer(value), True)

    def test_bools_and_all_else_are_no_integers(self):
        for value in odd_values():
            if type(value) is not int:
                with self.subTest(value=value):
                    self.assertIs(is_integer(value), False)
                    self.assertIs(is_between(value, -5, 5), False)
                    self.assertIs(is_number(value), False)

    def test_between(self):
        self.assertEqual([is_between(value, 2, 4) for value in (1, 2, 3, 4, 5)], [False, True, True, True, False])

    def test_numbers(self):
        found = [is_number(value) for value in (-10000, -9999, 0, 9999, 10000)]
        self.assertEqual(found, [False, True, True, True, False])


class CellsTest(unittest.TestCase):

    def test_cells(self):
        for value in (0, 9999, -9999, ('record', 0), ('record', 2)):
            self.assertIs(is_cell(value, 'record', 3), True)
        for value in odd_values() + [('record', 3), ('record', -1), ('record', True), ('copy', 0), ['record', 0],
                                     ('record',), ('record', 0, 0), (0, 'record'), -10000]:
            if not is_number(value):
                with self.subTest(value=value):
                    self.assertIs(is_cell(value, 'record', 3), False)
                    self.assertIs(are_cells((0, value), 2, 'record', 3), False)
                    self.assertIs(are_cells(value, 2, 'record', 3), False)
        self.assertIs(is_cell(('record', 0), 'record', 0), False)

    def test_tuples_of_cells(self):
        found = [are_cells((1,) * many, 2, 'copy', 0) for many in range(4)]
        self.assertEqual(found, [False, False, True, False])
        self.assertIs(are_cells([1, 1], 2, 'copy', 0), False)

    def test_ascending(self):
        found = [is_ascending(numbers) for numbers in ((), (5,), (1, 2, 9), (1, 1), (2, 1), (1, 3, 2))]
        self.assertEqual(found, [True, True, True, False, False, False])


class TakenValuesTest(unittest.TestCase):

    def test_numbers_of_a_call(self):
        for numbers in ((), (0,), (9999, -9999), (1, 2, 3)):
            self.assertIsNone(check_numbers(numbers, len(numbers)))

    def test_no_numbers_of_a_call(self):
        for numbers in ((1,), (1, 2, 3), [1, 2], (1, True), (False, 1), (1, 10000), (-10000, 1), (1, '1'), (1, None),
                        ((1,), 2), '12', None, 2, {1: 2, 2: 3}, (), (1, ('record', 0)), (1, 2.0)):
            with self.subTest(numbers=numbers):
                self.assertIs(raised(self, BadNumbers, check_numbers, numbers, 2), numbers)

    def test_doors_and_fields(self):
        self.assertIsNone(check_door(STACK, 'head'))
        self.assertIsNone(check_field(STACK, 'key'))
        self.assertIsNone(check_field(STACK, 'after'))
        for value in odd_values() + ['push', 'key']:
            self.assertIs(raised(self, NoDoor, check_door, STACK, value), value)
        for value in odd_values() + ['push', 'head']:
            self.assertIs(raised(self, NoField, check_field, STACK, value), value)

    def test_ways(self):
        for way in (('head',), ('head', 'key'), ('head', 'after', 'after'), ('head',) + ('after',) * 200):
            self.assertIsNone(check_way(STACK, way))

    def test_no_ways(self):
        wrong = [value for value in odd_values() if value != ('head',)]
        wrong += [('key',), ('head', 'head'), ('push',), ('head', 'key', 'push'), ('head', 'after', None),
                  ('head', ['key']), (['head'],), (True,), ('head', 0), ('head',) + ('after',) * 201,
                  ['head', 'key'], 'head', ('head', ('key',)), ({}, 'key'), ('head', STACK), (STACK,)]
        for way in wrong:
            with self.subTest(way=way):
                self.assertIs(raised(self, BadWay, check_way, STACK, way), way)
                self.assertIs(is_way(STACK, way), False)

    def test_spares(self):
        for spare in list(range(9)) + [None]:
            self.assertIsNone(check_spare(spare))
        for spare in odd_values() + [9, -1, '0']:
            if spare is not None and not is_between(spare, 0, 8):
                self.assertIs(raised(self, BadSpare, check_spare, spare), spare)

    def test_moments(self):
        for moment in (0, 1, 4):
            self.assertIsNone(check_moment((0, 1, 4), moment))
        for moment in odd_values() + [2, 3, 5, '0', (0,)]:
            if type(moment) is not int or moment not in (0, 1, 4):
                self.assertIs(raised(self, BadMoment, check_moment, (0, 1, 4), moment), moment)


if __name__ == '__main__':
    unittest.main()
