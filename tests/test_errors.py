"""Point 15, and what point 2 says of errors."""

import unittest

import everymoment.errors
from everymoment.errors import MomentError
from samples import odd_values

NAMES = '''NoProgram BadProgram BadLine NoPart BadNumbers Fault NoDoor NoField NoRecord BadWay BadCalls BadMany BadShape
BadSpare BadMoment BadMemory NoCharge BadPrice BadTower BadLevels BadShare BadMoments NotNeeded BadValue LetGo
NothingToUndo NothingToRedo NoBlock BadJournal BadTask'''.split()


class ErrorsTest(unittest.TestCase):

    def test_moment_error_is_directly_below_value_error(self):
        self.assertEqual(MomentError.__bases__, (ValueError,))

    def test_all_others_are_directly_below_moment_error(self):
        for name in NAMES:
            with self.subTest(name):
                error = getattr(everymoment.errors, name)
                self.assertEqual(error.__bases__, (MomentError,))
                self.assertEqual((error.__name__, error.__module__), (name, 'everymoment.errors'))

    def test_there_are_no_others(self):
        found = [name for name, value in vars(everymoment.errors).items() if isinstance(value, type)]
        self.assertEqual(sorted(found), sorted(NAMES + ['MomentError']))

    def test_each_keeps_any_value(self):
        for name in NAMES + ['MomentError']:
            error = getattr(everymoment.errors, name)
            for value in odd_values():
                with self.subTest(name, value=value):
                    self.assertIs(error(value).value, value)

    def test_each_can_be_raised_and_caught_as_its_bases(self):
        for name in NAMES + ['MomentError']:
            error = getattr(everymoment.errors, name)
            for base in (error, MomentError, ValueError):
                with self.subTest(name, base=base):
                    with self.assertRaises(base) as caught:
                        raise error(('record', 3))
                    self.assertEqual(caught.exception.value, ('record', 3))

    def test_the_argument_is_the_only_one_and_must_be_there(self):
        for name in NAMES + ['MomentError']:
            error = getattr(everymoment.errors, name)
            with self.subTest(name):
                self.assertRaises(TypeError, error)
                self.assertRaises(TypeError, error, 1, 2)


if __name__ == '__main__':
    unittest.main()
