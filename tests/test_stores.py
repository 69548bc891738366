"""Point 5, and what point 2 says of CALLS, and of calls that raise."""

import unittest

from everymoment.errors import (BadCalls, BadMany, BadNumbers, BadWay, Fault, NoDoor, NoField, NoPart, NoProgram,
                                NoRecord)
from everymoment.stores import Store, done, first_state, ran, writes
from everymoment.texts import Program
from samples import PILE, STACK, odd_values, program_of, raised, standing


def told_by(*lines, fields='fields f g', doors='doors d e', numbers=()):
    """What the last part of a program, whose parts these lines are, tells when it is called once."""
    program = program_of(fields, doors, *lines)
    return Store(program).call(program.parts[-1][0], numbers)


class StoreCase(unittest.TestCase):

    def assert_fault(self, store, line, name, numbers=()):
        """The call faults at this line, and leaves all as it was."""
        elder = standing(store)
        self.assertEqual(raised(self, Fault, store.call, name, numbers), line)
        self.assertEqual(standing(store), elder)

    def assert_part_faults(self, line, *lines):
        program = program_of('fields f g', 'doors d e', *lines)
        self.assert_fault(Store(program), line, program.parts[-1][0], (0,) * program.parts[-1][1])


class StatementsTest(StoreCase):

    def test_locals_hold_0_until_put(self):
        self.assertEqual(told_by('part p x', 'tell x', 'tell y', 'put y 4', 'tell y', numbers=(3,)), (3, 0, 4))

    def test_names_that_end_in_figures(self):
        self.assertEqual(told_by('part p1 a1', 'put b2 a1', 'tell a1', 'tell b2', 'tell c3', 'put d0 b2', 'tell d0',
                                 doors='doors d0 e', numbers=(4,)), (4, 4, 0, 4))

    def test_locals_hold_0_as_each_call_begins(self):
        store = Store(program_of('fields f', 'doors d', 'part p', 'tell x', 'put x 5', 'tell x'))
        self.assertEqual([store.call('p', ()), store.call('p', ())], [(0, 5), (0, 5)])

    def test_doors_hold_0_at_first_and_stay(self):
        store = Store(program_of('fields f', 'doors d e', 'part p x', 'tell d', 'put d x', 'tell d', 'tell e'))
        self.assertEqual([store.call('p', (7,)), store.call('p', (-8,))], [(0, 7, 0), (7, -8, 0)])
        self.assertEqual([store.door('d'), store.door('e')], [-8, 0])

    def test_new(self):
        store = Store(program_of('fields f g', 'doors d', 'part p', 'new x', 'new d', 'tell x', 'tell d', 'new x',
                                 'tell x'))
        self.assertEqual(store.call('p', ()), (('record', 0), ('record', 1), ('record', 2)))
        self.assertEqual(store.call('p', ()), (('record', 3), ('record', 4), ('record', 5)))
        self.assertEqual(store.records, 6)
        self.assertEqual([store.field(record, name) for record in range(6) for name in 'fg'], [0] * 12)

    def test_get_and_set(self):
        told = told_by('part p', 'new x', 'set x f 5', 'set x g x', 'get y x f', 'get z x g', 'tell y', 'tell z',
                       'get d x g', 'get d d f', 'tell d', 'new e', 'set e f -3', 'get y e f', 'tell y', 'get y e g',
                       'tell y')
        self.assertEqual(told, (5, ('record', 0), 5, -3, 0))

    def test_get_into_what_it_goes_by(self):
        self.assertEqual(told_by('part p', 'new x', 'new y', 'set x g y', 'set y g 6', 'get x x g', 'get x x g',
                                 'tell x'), (6,))

    def test_set_changes_the_record_for_all_that_link_to_it(self):
        self.assertEqual(told_by('part p', 'new x', 'put d x', 'put y d', 'set y f 9', 'get z d f', 'tell z',
                                 'get z x f', 'tell z'), (9, 9))

    def test_set_changes_one_field_of_one_record(self):
        store = Store(program_of('fields f g h', 'doors d e', 'part p', 'new d', 'new e', 'set d g 1', 'set e h 2'))
        store.call('p', ())
        self.assertEqual([[store.field(record, name) for name in 'fgh'] for record in (0, 1)], [[0, 1, 0], [0, 0, 2]])
        for field, row in (('f', [9, 2, 3]), ('g', [1, 9, 3]), ('h', [1, 2, 9])):
            store = Store(program_of('fields f g h', 'doors d', 'part p', 'new d', 'set d f 1', 'set d g 2',
                                     'set d h 3', 'set d ' + field + ' 9'))
            store.call('p', ())
            self.assertEqual([store.field(0, name) for name in 'fgh'], row)

    def test_put(self):
        self.assertEqual(told_by('part p', 'put x 5', 'put y x', 'put x 6', 'tell y', 'tell x', 'new z', 'put d z',
                                 'put x d', 'tell x', 'put d -9999', 'tell d'), (5, 6, ('record', 0), -9999))

    def test_add(self):
        self.assertEqual(told_by('part p', 'put x 5', 'add y x -7', 'tell y', 'add x x x', 'tell x', 'add d x y',
                                 'tell d', 'add z 0 9999', 'tell z', 'add z 0 -9999', 'tell z'),
                         (-2, 10, 8, 9999, -9999))

    def test_add_stops_at_the_least_and_the_greatest_number(self):
        for one, other, total in ((9999, 1, 9999), (9998, 1, 9999), (9999, 9999, 9999), (9999, 0, 9999),
                                  (-9999, -1, -9999), (-9998, -1, -9999), (-9999, -9999, -9999), (9999, -1, 9998),
                                  (-9999, 1, -9998), (9999, -9999, 0)):
            self.assertEqual(told_by('part p x y', 'add z x y', 'tell z', numbers=(one, other)), (total,))

    def test_less(self):
        for one, other, told in ((1, 2, 1), (2, 1, 0), (2, 2, 0), (-9999, 9999, 1), (-1, -2, 0), (0, 0, 0)):
            self.assertEqual(told_by('part p x y', 'less z x y', 'tell z', numbers=(one, other)), (told,))

    def test_same(self):
        for one, other, told in ((1, 2, 0), (2, 2, 1), (-1, 1, 0), (0, 0, 1)):
            self.assertEqual(told_by('part p x y', 'same z x y', 'tell z', numbers=(one, other)), (told,))
        self.assertEqual(told_by('part p', 'new x', 'new y', 'put z x', 'same d x y', 'tell d', 'same d x z', 'tell d',
                                 'same d x 0', 'tell d', 'same d 1 y', 'tell d', 'same d x x', 'tell d'),
                         (0, 1, 0, 0, 1))

    def test_same_does_not_look_into_records(self):
        self.assertEqual(told_by('part p', 'new x', 'new y', 'set x f 1', 'set y f 1', 'same z x y', 'tell z'), (0,))

    def test_kind(self):
        self.assertEqual(told_by('part p', 'new x', 'kind y x', 'tell y', 'kind y 0', 'tell y', 'kind y 7', 'tell y',
                                 'kind x x', 'tell x', 'kind y d', 'tell y', 'new d', 'kind d d', 'tell d'),
                         (1, 0, 0, 1, 0, 1))

    def test_tell(self):
        self.assertEqual(told_by('part p', 'tell 1'), (1,))
        self.assertEqual(told_by('part p'), ())
        self.assertEqual(told_by('part p x', 'tell x', 'tell 2', 'tell x', numbers=(3,)), (3, 2, 3))

    def test_if(self):
        for number, told in ((0, (2, 3)), (1, (1, 3)), (-1, (1, 3)), (9999, (1, 3))):
            self.assertEqual(told_by('part p x', 'if x', 'tell 1', 'else', 'tell 2', 'end', 'tell 3',
                                     numbers=(number,)), told)
        for number, told in ((0, (3,)), (5, (1, 3))):
            self.assertEqual(told_by('part p x', 'if x', 'tell 1', 'end', 'tell 3', numbers=(number,)), told)

    def test_if_takes_a_record_as_what_is_not_0(self):
        self.assertEqual(told_by('part p', 'new x', 'if x', 'tell 1', 'else', 'tell 2', 'end', 'while x', 'tell 3',
                                 'put x 0', 'end'), (1, 3))

    def test_if_within_if(self):
        lines = ('part p x y', 'if x', 'if y', 'tell 1', 'else', 'tell 2', 'end', 'tell 5', 'else', 'if y', 'tell 3',
                 'else', 'tell 4', 'end', 'tell 6', 'end', 'tell 7')
        for numbers, told in (((1, 1), (1, 5, 7)), ((1, 0), (2, 5, 7)), ((0, 1), (3, 6, 7)), ((0, 0), (4, 6, 7))):
            self.assertEqual(told_by(*lines, numbers=numbers), told)

    def test_while(self):
        lines = ('part p x', 'while x', 'tell x', 'add x x -1', 'end', 'tell 9')
        for number, told in ((0, (9,)), (1, (1, 9)), (3, (3, 2, 1, 9))):
            self.assertEqual(told_by(*lines, numbers=(number,)), told)

    def test_while_within_while_and_if(self):
        told = told_by('part p x', 'while x', 'put y x', 'while y', 'tell y', 'add y y -1', 'end', 'same z x 2', 'if z',
                       'tell 20', 'else', 'tell 10', 'end', 'add x x -1', 'end', numbers=(3,))
        self.assertEqual(told, (3, 2, 1, 10, 2, 1, 20, 1, 10))

    def test_blocks_six_deep(self):
        told = told_by('part p x', *['if x'] * 5, 'while x', 'tell x', 'add x x -1', *['end'] * 6, 'tell 7',
                       numbers=(2,))
        self.assertEqual(told, (2, 1, 7))


class CalledPartsTest(StoreCase):

    def test_call_is_done_to_its_end_ahead_of_the_statement_behind(self):
        self.assertEqual(told_by('part q', 'tell 2', 'tell 3', 'part p', 'tell 1', 'call q', 'tell 4', 'call q'),
                         (1, 2, 3, 4, 2, 3))

    def test_parameters_and_locals_of_its_own(self):
        told = told_by('part q x y', 'tell x', 'tell y', 'tell z', 'put x 7', 'put z 8', 'part p x', 'put z 5',
                       'call q z x', 'tell x', 'tell z', 'tell y', 'call q 1 2', numbers=(3,))
        self.assertEqual(told, (5, 3, 0, 3, 5, 0, 1, 2, 0))

    def test_records_are_handed_to_called_parts(self):
        self.assertEqual(told_by('part q x y', 'set x f y', 'tell y', 'part p', 'new x', 'new d', 'call q x d',
                                 'call q d x', 'get y d f', 'tell y', 'get y x f', 'tell y'),
                         (('record', 1), ('record', 0), ('record', 0), ('record', 1)))

    def test_doors_are_the_same_in_called_parts(self):
        self.assertEqual(told_by('part q', 'add d d 1', 'part p', 'put d 5', 'call q', 'tell d', 'call q', 'tell d'),
                         (6, 7))

    def test_three_values_and_parts_that_call_parts(self):
        told = told_by('part r x', 'tell x', 'part q x y z', 'call r z', 'call r y', 'call r x', 'part p',
                       'call q 1 -2 3', 'call r 4')
        self.assertEqual(told, (3, -2, 1, 4))

    def test_twelve_parts_deep(self):
        lines = ['part p0', 'tell 5']
        for number in range(1, 12):
            lines += ['part p' + str(number), 'call p' + str(number - 1), 'tell ' + str(number)]
        self.assertEqual(told_by(*lines), (5,) + tuple(range(1, 12)))

    def test_a_part_without_statements(self):
        self.assertEqual(told_by('part q', 'part p', 'tell 1', 'call q', 'tell 2'), (1, 2))


class FaultsTest(StoreCase):

    def test_get_and_set_at_what_is_no_record(self):
        self.assert_part_faults(5, 'part p', 'tell 1', 'get x y f')
        self.assert_part_faults(4, 'part p', 'get x 5 f')
        self.assert_part_faults(4, 'part p', 'get d d f')
        self.assert_part_faults(4, 'part p', 'set x f 1')
        self.assert_part_faults(4, 'part p', 'set 0 f 1')
        self.assert_part_faults(5, 'part p', 'new d', 'set e f d')

    def test_add_and_less_that_meet_a_record(self):
        for word in ('add', 'less'):
            for operands in ('y x 1', 'y 1 x', 'y x x', 'x x 0', 'd x e'):
                self.assert_part_faults(5, 'part p', 'new x', word + ' ' + operands)
            self.assert_part_faults(5, 'part p', 'new d', word + ' y d 1')

    def test_a_fault_in_a_called_part_has_the_line_there(self):
        self.assert_part_faults(4, 'part q x', 'get y x f', 'part p', 'tell 1', 'call q 1')

    def test_a_fault_leaves_all_as_it_was(self):
        lines = ['fields f g', 'doors d e', 'part keep', 'new d', 'set d f 1', 'part fail n', 'put e n', 'new x',
                 'set x f n', 'set d f x', 'set d g n', 'put d x', 'tell n', 'add n n x']
        store = Store(program_of(*lines))
        # Here d is no record yet, later on all is done up to the last line.
        self.assert_fault(store, 10, 'fail', (3,))
        store.call('keep', ())
        self.assert_fault(store, 14, 'fail', (3,))
        self.assertEqual([store.door('d'), store.door('e'), store.field(0, 'f'), store.field(0, 'g'), store.records],
                         [('record', 0), 0, 1, 0, 1])
        self.assertEqual([store.moment, store.calls], [1, (('keep', ()),)])

    def test_a_call_behind_a_fault(self):
        store = Store(PILE)
        self.assert_fault(store, 20, 'pop')
        self.assertEqual(store.call('push', (4,)), ())
        self.assertEqual([store.records, store.moment, store.call('pop', ())], [1, 1, (4,)])
        self.assert_fault(store, 20, 'pop')

    def test_the_201st_record(self):
        store = Store(program_of('fields f', 'doors d', 'part one', 'new x', 'part two', 'tell 1', 'new d', 'new d'))
        for number in range(199):
            store.call('one', ())
        self.assert_fault(store, 8, 'two')
        store.call('one', ())
        self.assertEqual(store.records, 200)
        self.assert_fault(store, 4, 'one')
        self.assert_fault(store, 7, 'two')
        store.back(1)
        self.assertEqual([store.call('one', ()), store.records], [(), 200])

    def test_the_201st_record_within_one_call(self):
        store = Store(program_of('fields f', 'doors d', 'part many n', 'while n', 'new x', 'add n n -1', 'end'))
        self.assert_fault(store, 5, 'many', (201,))
        store.call('many', (200,))
        self.assertEqual([store.records, store.field(199, 'f')], [200, 0])
        self.assert_fault(store, 5, 'many', (1,))
        self.assertEqual(store.call('many', (0,)), ())

    def test_the_2001st_step(self):
        # A look at n for each time round and one more, and an add for each: 2 * n + 1 steps.
        store = Store(program_of('fields f', 'doors d', 'part p n', 'while n', 'add n n -1', 'end', 'part q n',
                                 'while n', 'add n n -1', 'end', 'tell n', 'tell n'))
        self.assertEqual(store.call('p', (999,)), ())
        self.assert_fault(store, 4, 'p', (1000,))
        self.assertEqual(store.call('q', (998,)), (0, 0))
        self.assert_fault(store, 12, 'q', (999,))
        self.assert_fault(store, 8, 'q', (1000,))
        self.assertEqual(store.moment, 2)

    def test_the_2000th_step_is_the_last_one(self):
        # 1999 steps, and one more: the 2000th can be done.
        store = Store(program_of('fields f', 'doors d', 'part p n', 'while n', 'add n n -1', 'end', 'tell n',
                                 'part q n', 'call p n', 'part r n', 'call q n'))
        self.assertEqual(store.call('p', (999,)), (0,))
        self.assert_fault(store, 7, 'q', (999,))
        self.assert_fault(store, 4, 'p', (1000,))
        self.assertEqual(store.call('r', (998,)), (0,))
        self.assertEqual(store.call('q', (998,)), (0,))

    def test_looks_of_while_and_if_are_steps_and_else_and_end_are_none(self):
        # Each time round: while, add, if, and one tell; else and both ends are none.
        store = Store(program_of('fields f', 'doors d', 'part p n', 'while n', 'add n n -1', 'if n', 'put x n', 'else',
                                 'put y n', 'end', 'end', 'if n', 'else', 'tell 1', 'end', 'tell 2', 'part q n',
                                 'call p n', 'tell 3', 'tell 4'))
        self.assertEqual(store.call('p', (499,)), (1, 2))
        self.assertEqual(raised(self, Fault, store.call, 'p', (500,)), 4)
        # 4 * 499 + 1 + 3 are 2000 steps.
        self.assert_fault(store, 16, 'q', (499,))
        self.assertEqual(store.call('q', (498,)), (1, 2, 3, 4))

    def test_a_loop_without_end(self):
        self.assert_part_faults(4, 'part p', 'while 1', 'end')
        self.assert_part_faults(4, 'part p', 'while 1', 'tell 1', 'end')
        self.assert_part_faults(6, 'part p', 'while 1', 'tell 1', 'tell 2', 'end')

    def test_call_is_a_step(self):
        # If call were none, all steps but the tell would be looks of while.
        self.assert_part_faults(5, 'part q', 'part p', 'while 1', 'call q', 'end')
        self.assert_part_faults(7, 'part q', 'part p', 'tell 1', 'while 1', 'call q', 'end')


class CallTest(StoreCase):

    def test_no_part(self):
        store = ran(STACK, (('push', (3,)),))
        elder = standing(store)
        for value in odd_values() + ['head', 'key', 'k', 'r']:
            for numbers in ((), (1,), None):
                with self.subTest(value=value):
                    self.assertIs(raised(self, NoPart, store.call, value, numbers), value)
        self.assertEqual(standing(store), elder)

    def test_bad_numbers(self):
        store = ran(STACK, (('push', (3,)),))
        elder = standing(store)
        for value in odd_values() + [(1, 2), (True,), (10000,), (-10000,), (None,), ('1',), [1], ((1,),), '1',
                                     (('record', 0),)]:
            with self.subTest(value=value):
                self.assertIs(raised(self, BadNumbers, store.call, 'push', value), value)
                if value != ():
                    self.assertIs(raised(self, BadNumbers, store.call, 'top', value), value)
        self.assertEqual(standing(store), elder)

    def test_the_greatest_and_the_least_numbers(self):
        store = Store(program_of('fields f', 'doors d', 'part p a b c', 'tell a', 'tell b', 'tell c'))
        self.assertEqual(store.call('p', (9999, -9999, 0)), (9999, -9999, 0))

    def test_by_name(self):
        store = Store(program=PILE)
        self.assertEqual(store.call(name='push', numbers=(3,)), ())
        self.assertEqual([store.door(name='top'), store.field(record=0, name='val'), store.read(way=('top', 'val'))],
                         [('record', 0), 3, 3])
        self.assertIsNone(store.back(many=1))
        self.assertEqual(ran(program=PILE, calls=()), store)
        self.assertEqual(writes(program=PILE, calls=()), ())

    def test_a_new_store(self):
        store = Store(STACK)
        self.assertIs(store.program, STACK)
        self.assertEqual([store.moment, store.records, store.calls, len(store), store.door('head')], [0, 0, (), 0, 0])

    def test_moment_records_calls_and_len(self):
        store = Store(STACK)
        for number in range(1, 4):
            store.call('push', (number,))
            store.call('top', ())
            self.assertEqual([store.moment, store.records, len(store)], [2 * number, number, 2 * number])
        self.assertEqual(store.calls, (('push', (1,)), ('top', ()), ('push', (2,)), ('top', ()), ('push', (3,)),
                                       ('top', ())))


class ReadTest(StoreCase):

    def setUp(self):
        self.store = ran(STACK, (('push', (5,)), ('push', (7,))))

    def test_door(self):
        self.assertEqual(self.store.door('head'), ('record', 1))
        for value in odd_values() + ['key', 'after', 'push']:
            self.assertIs(raised(self, NoDoor, self.store.door, value), value)

    def test_field(self):
        found = [self.store.field(record, name) for record in (0, 1) for name in ('key', 'after')]
        self.assertEqual(found, [5, 0, 7, ('record', 0)])

    def test_no_record(self):
        for value in odd_values() + [2, 3, -1, -2, 200, '0', ('record', 0)]:
            if type(value) is not int or value not in (0, 1):
                for name in ('key', 'head', None):
                    with self.subTest(value=value, name=name):
                        self.assertIs(raised(self, NoRecord, self.store.field, value, name), value)
        self.assertEqual(raised(self, NoRecord, Store(STACK).field, 0, 'key'), 0)

    def test_no_field(self):
        for value in odd_values() + ['head', 'push']:
            with self.subTest(value=value):
                self.assertIs(raised(self, NoField, self.store.field, 1, value), value)

    def test_read(self):
        for way, value in ((('head',), ('record', 1)), (('head', 'key'), 7), (('head', 'after'), ('record', 0)),
                           (('head', 'after', 'key'), 5), (('head', 'after', 'after'), 0),
                           (('head', 'key', 'key'), None), (('head', 'after', 'after', 'after'), None),
                           (('head', 'after', 'key', 'key', 'key'), None)):
            self.assertEqual(self.store.read(way), value)
        self.assertEqual(Store(STACK).read(('head',)), 0)
        self.assertIsNone(Store(STACK).read(('head', 'key')))

    def test_bad_way(self):
        for value in odd_values() + [('key',), ('head', 'head'), ('head', 'key', None), ['head']]:
            if value != ('head',):
                with self.subTest(value=value):
                    self.assertIs(raised(self, BadWay, self.store.read, value), value)

    def test_ways_of_200_fields(self):
        store = Store(program_of('fields f g', 'doors d e', 'part p', 'new e', 'set e f e', 'set e g 4'))
        store.call('p', ())
        self.assertEqual(store.read(('e',) + ('f',) * 200), ('record', 0))
        self.assertEqual(store.read(('e',) + ('f',) * 199 + ('g',)), 4)
        self.assertIsNone(store.read(('d',) + ('f',) * 200))
        for door in 'de':
            way = (door,) + ('f',) * 201
            self.assertIs(raised(self, BadWay, store.read, way), way)


class BackTest(StoreCase):

    def calls(self):
        return (('push', (5,)), ('push', (7,)), ('total', ()), ('pop', ()), ('push', (9,)))

    def test_back(self):
        for many in range(1, 6):
            store = ran(PILE, self.calls())
            self.assertIsNone(store.back(many))
            self.assertEqual(standing(store), standing(ran(PILE, self.calls()[:5 - many])))
            self.assertEqual(store.moment, 5 - many)

    def test_back_and_on(self):
        store = ran(PILE, self.calls())
        store.back(2)
        store.back(1)
        self.assertEqual([store.call('push', (1,)), store.call('total', ()), store.records], [(), (13,), 3])
        self.assertEqual(standing(store), standing(ran(PILE, self.calls()[:2] + (('push', (1,)), ('total', ())))))

    def test_bad_many(self):
        store = ran(PILE, self.calls())
        elder = standing(store)
        for value in odd_values() + [6, 7, -5, 0, -1]:
            if type(value) is not int or not 1 <= value <= 5:
                with self.subTest(value=value):
                    self.assertIs(raised(self, BadMany, store.back, value), value)
        self.assertEqual(standing(store), elder)
        store.back(5)
        self.assertEqual(standing(store), standing(Store(PILE)))
        for many in (0, 1):
            self.assertEqual(raised(self, BadMany, store.back, many), many)


class CopyTest(StoreCase):

    def test_copy(self):
        store = ran(PILE, (('push', (5,)), ('push', (7,))))
        other = store.copy()
        self.assertIs(type(other), Store)
        self.assertEqual(standing(other), standing(store))
        self.assertTrue(other == store)

    def test_copies_are_by_themselves(self):
        store = ran(PILE, (('push', (5,)), ('push', (7,))))
        elder = standing(store)
        other = store.copy()
        other.call('push', (9,))
        other.call('pop', ())
        self.assertEqual(standing(store), elder)
        other.back(4)
        self.assertEqual(standing(store), elder)
        third = store.copy()
        store.back(1)
        store.call('push', (1,))
        self.assertEqual(standing(third), elder)
        self.assertEqual([third.call('pop', ()), third.call('pop', ())], [(7,), (5,)])

    def test_equality(self):
        store = ran(PILE, (('push', (5,)),))
        self.assertTrue(store == ran(Program(PILE.text), (('push', (5,)),)))
        self.assertFalse(store != ran(PILE, (('push', (5,)),)))
        self.assertFalse(store == Store(PILE))
        self.assertFalse(store == ran(PILE, (('push', (6,)),)))
        self.assertFalse(store == ran(PILE, (('push', (5,)), ('total', ()))))
        self.assertTrue(ran(PILE, (('push', (5,)), ('total', ()))) != store)
        self.assertFalse(Store(PILE) == Store(STACK))
        self.assertTrue(Store(PILE) != Store(STACK))

    def test_equality_is_of_calls_not_of_what_they_lead_to(self):
        idle = program_of('fields f', 'doors d', 'part p', 'part q')
        self.assertFalse(ran(idle, (('p', ()),)) == ran(idle, (('q', ()),)))
        twin = program_of('fields f', 'doors d', 'part p', 'part r')
        self.assertFalse(ran(idle, (('p', ()),)) == ran(twin, (('p', ()),)))

    def test_equal_to_nothing_else(self):
        store = Store(PILE)
        for value in odd_values() + [store.calls, store.program]:
            if not isinstance(value, Store) or value.program != PILE:
                with self.subTest(value=value):
                    self.assertIs(store == value, False)
                    self.assertIs(value == store, False)
                    self.assertIs(store != value, True)

    def test_no_other_operators(self):
        store, other = Store(PILE), Store(PILE)
        for deed in (lambda: store < other, lambda: store >= other, lambda: store + other, lambda: 0 in store,
                     lambda: store[0]):
            self.assertRaises(TypeError, deed)


class RanTest(StoreCase):

    def test_ran(self):
        calls = (('push', (5,)), ('push', (7,)), ('pop', ()))
        store = Store(PILE)
        self.assertEqual(standing(ran(PILE, ())), standing(store))
        for number, (name, numbers) in enumerate(calls):
            store.call(name, numbers)
            self.assertEqual(standing(ran(PILE, calls[:number + 1])), standing(store))
        self.assertIs(type(ran(PILE, calls)), Store)

    def test_what_ran_tells_can_go_on(self):
        store = ran(PILE, (('push', (5,)), ('push', (7,))))
        self.assertEqual([store.call('pop', ()), store.moment], [(7,), 3])
        store.back(3)
        self.assertEqual([store.moment, store.door('top')], [0, 0])

    def test_calls_that_are_no_tuple(self):
        for value in odd_values() + [[('push', (1,))], 'push', [], {('push', (1,)): 1}]:
            if not isinstance(value, tuple):
                with self.subTest(value=value):
                    self.assertIsNone(raised(self, BadCalls, ran, PILE, value))
                    self.assertIsNone(raised(self, BadCalls, writes, PILE, value))

    def test_what_is_no_call(self):
        good = (('push', (1,)), ('total', ()))
        wrong = odd_values() + [['push', (1,)], ('push', [1]), ('push', (1, 2)), ('push', ()), ('push', (True,)),
                                ('push', (10000,)), ('push', (-10000,)), ('nope', ()), ('push',), ('push', (1,), 1),
                                ('push', 1), 'push', ('total', (1,)), ('top', ()), (PILE, ()), (['push'], (1,)),
                                ('total', None), ('total', []), (None, None), 'ab', {'push': 1, 'total': 2}]
        for value in wrong:
            if value == ('push', (1,)):
                continue
            with self.subTest(value=value):
                for function in (ran, writes):
                    self.assertEqual(raised(self, BadCalls, function, PILE, (value,)), 0)
                    self.assertEqual(raised(self, BadCalls, function, PILE, good + (value,) + good), 2)
                    self.assertEqual(raised(self, BadCalls, function, PILE, (value, None)), 0)

    def test_calls_that_fault(self):
        for function in (ran, writes):
            self.assertEqual(raised(self, BadCalls, function, PILE, (('pop', ()),)), 0)
            self.assertEqual(raised(self, BadCalls, function, PILE, (('push', (1,)), ('pop', ()), ('pop', ()))), 2)
            # The first one that is wrong counts, whatever is wrong with it.
            calls = (('push', (1,)), ('pop', ()), ('pop', ()), None)
            self.assertEqual(raised(self, BadCalls, function, PILE, calls), 2)
            self.assertEqual(raised(self, BadCalls, function, PILE, (('total', ()), None, ('pop', ()))), 1)

    def test_the_program_is_looked_at_first(self):
        for function in (ran, writes):
            self.assertEqual(raised(self, NoProgram, function, 'text', (None,)), 'text')

    def test_arguments_are_not_changed(self):
        calls = (('push', (5,)), ('pop', ()))
        ran(PILE, calls)
        writes(PILE, calls)
        self.assertEqual(calls, (('push', (5,)), ('pop', ())))


class WritesTest(StoreCase):

    def writes_of(self, *lines):
        program = program_of('fields f g', 'doors d', 'part p', *lines)
        return writes(program, (('p', ()),))

    def test_none(self):
        self.assertEqual(writes(PILE, ()), ())
        self.assertEqual(self.writes_of('new x', 'put d x', 'put d 5', 'new d'), ())

    def test_only_another_value_is_written(self):
        self.assertEqual(self.writes_of('new x', 'set x f 0', 'set x f 1', 'set x f 1', 'set x f 2'),
                         ((1, 0, 'f', 1), (1, 0, 'f', 2)))
        self.assertEqual(self.writes_of('new x', 'new y', 'set x g y', 'set x g y', 'set x g x', 'set x g 0'),
                         ((1, 0, 'g', ('record', 1)), (1, 0, 'g', ('record', 0)), (1, 0, 'g', 0)))

    def test_what_is_given_back_counts(self):
        self.assertEqual(self.writes_of('new x', 'set x f 1', 'set x f 0', 'set x f 1'),
                         ((1, 0, 'f', 1), (1, 0, 'f', 0), (1, 0, 'f', 1)))

    def test_the_sequence_over_records_fields_and_calls(self):
        program = program_of('fields f g', 'doors d e', 'part q x n', 'set x g n', 'part p n', 'new d', 'put e d',
                             'set e g n', 'call q d 4', 'set d f n', 'part o n', 'set d f n', 'part i')
        found = writes(program, (('p', (3,)), ('i', ()), ('o', (3,)), ('o', (5,)), ('p', (0,))))
        self.assertEqual(found, ((1, 0, 'g', 3), (1, 0, 'g', 4), (1, 0, 'f', 3), (4, 0, 'f', 5), (5, 1, 'g', 4)))

    def test_a_number_is_not_a_record(self):
        self.assertEqual(self.writes_of('new x', 'set x f x', 'set x f 0'),
                         ((1, 0, 'f', ('record', 0)), (1, 0, 'f', 0)))


class DoneTest(unittest.TestCase):
    """What a call does, one deed behind another, as machines that remember take it."""

    def deeds_of(self, *lines):
        program = program_of('fields f g', 'doors d e', 'part in x', 'set x g x', 'put e x', 'part p', *lines)
        return done(program, first_state(program), 'p', ())[2]

    def test_deeds(self):
        self.assertEqual(self.deeds_of('new d', 'set d f 5', 'put e d', 'put x 7'), (
            ('new', 0), ('put', 'd', ('record', 0)), ('set', 0, 'f', 5), ('put', 'e', ('record', 0))))
        self.assertEqual(self.deeds_of('new x', 'call in x', 'put e 0', 'new y'), (
            ('new', 0), ('set', 0, 'g', ('record', 0)), ('put', 'e', ('record', 0)), ('put', 'e', 0), ('new', 1)))

    def test_what_becomes_nothing_else_is_no_deed(self):
        self.assertEqual(self.deeds_of('put d 0', 'new x', 'set x f 0', 'put d 1', 'put d 1', 'put d 0'),
                         (('new', 0), ('put', 'd', 1), ('put', 'd', 0)))


if __name__ == '__main__':
    unittest.main()
