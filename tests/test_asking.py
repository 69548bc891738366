"""Point 12: what is told of many moments."""

import unittest

from everymoment.asking import alike_moments, changes, door_history, history, since, until, when
from everymoment.errors import BadMoment, BadValue, BadWay, NoDoor, NoField, NoRecord
from everymoment.keeping import Kept, kept_of
from everymoment.shapes import shape
from samples import WEB, odd_values, program_of, raised

HEAP = program_of('fields key after', 'doors head', 'part push k', 'new r', 'set r key k', 'set r after head',
                  'put head r', 'part pop', 'kind any head', 'if any', 'get head head after', 'end', 'part mark k',
                  'set head key k', 'part idle', 'part clear', 'put head 0')
PAIR = program_of('fields num link', 'doors a b', 'part make n', 'new a', 'set a num n', 'part to', 'set a link b',
                  'part turn', 'put r a', 'put a b', 'put b r', 'part mark n', 'set a num n', 'part lose', 'put a 0')

SPARES = (0, 1, 2, None)
R0, R1, R2 = [('record', number) for number in range(3)]

CALLS = (('push', (5,)), ('push', (7,)), ('mark', (9,)), ('pop', ()), ('mark', (5,)))


def heap(spare=1):
    return kept_of(HEAP, spare, CALLS)


def marked(*numbers):
    """A Kept of one record, whose key becomes these numbers, from moment 1 on."""
    return kept_of(HEAP, 1, (('push', numbers[:1]),) + tuple(('mark', (number,)) for number in numbers[1:]))


def not_moments(wanted):
    """Values that are none of these moments."""
    found = [value for value in odd_values() if type(value) is not int or value not in wanted]
    return found + [wanted[-1] + 1, -1, str(wanted[0]), (wanted[0],), float(wanted[0])]


class HistoryTest(unittest.TestCase):

    def test_history(self):
        for spare in SPARES:
            kept = heap(spare)
            self.assertEqual(history(kept, 0, 'key'), ((1, 5),))
            self.assertEqual(history(kept, 1, 'key'), ((2, 7), (3, 9)))
            self.assertEqual(history(kept, 1, 'after'), ((2, R0),))
            self.assertEqual(history(kept=kept, record=0, field='after'), ((1, 0),))

    def test_door_history(self):
        for spare in SPARES:
            self.assertEqual(door_history(kept=heap(spare), door='head'), ((0, 0), (1, R0), (2, R1), (4, R0)))
            self.assertEqual(door_history(Kept(HEAP, spare), 'head'), ((0, 0),))

    def test_what_comes_again_is_told_again(self):
        for kept in (marked(3, 4, 4, 3, 3, 0, 3),):
            self.assertEqual(history(kept, 0, 'key'), ((1, 3), (2, 4), (4, 3), (6, 0), (7, 3)))
        # Copies of a record that are made, and doors that are put to them, are no other VALUES.
        kept = kept_of(HEAP, 0, (('push', (5,)), ('mark', (6,)), ('mark', (7,))))
        self.assertEqual([door_history(kept, 'head'), history(kept, 0, 'after')], [((0, 0), (1, R0)), ((1, 0),)])

    def test_within_a_call_only_the_end_is_told(self):
        program = program_of('fields f', 'doors d', 'part m', 'new d', 'set d f 1', 'put x d', 'put d 3', 'put d x',
                             'part w', 'set d f 2', 'set d f 1')
        kept = kept_of(program, 1, (('m', ()), ('w', ()), ('w', ())))
        self.assertEqual([history(kept, 0, 'f'), door_history(kept, 'd')], [((1, 1),), ((0, 0), (1, R0))])

    def test_behind_letting_go(self):
        kept = heap()
        kept.let_go((3,))
        # At moment 3 both can be asked, at moment 5 only the one that is come to.
        self.assertEqual(kept.wanted, (3, 5))
        self.assertEqual(history(kept, 0, 'key'), ((3, 5),))
        self.assertEqual(history(kept, 1, 'key'), ((3, 9),))
        self.assertEqual(door_history(kept, 'head'), ((3, R1), (5, R0)))
        kept.call('mark', (8,))
        self.assertEqual([history(kept, 0, 'key'), history(kept, 1, 'key')], [((3, 5), (6, 8)), ((3, 9),)])
        kept.let_go(())
        self.assertEqual([history(kept, 0, 'key'), door_history(kept, 'head')], [((6, 8),), ((6, R0),)])
        self.assertEqual(raised(self, NoRecord, history, kept, 1, 'key'), 1)

    def test_records_that_cannot_be_asked_at_some_moments_between(self):
        kept = kept_of(PAIR, 1, (('make', (1,)), ('turn', ()), ('make', (2,)), ('to', ()), ('mark', (3,)),
                                 ('turn', ()), ('mark', (4,)), ('lose', ()), ('turn', ())))
        # Ahead of moment 4, record 0 is come to by a door; then from record 1 as well.
        self.assertEqual(history(kept, 0, 'num'), ((1, 1), (7, 4)))
        kept.let_go((0, 1, 5, 7, 8))
        self.assertEqual(kept.wanted, (0, 1, 5, 7, 8, 9))
        self.assertEqual(history(kept, 0, 'num'), ((1, 1), (7, 4)))
        self.assertEqual(history(kept, 1, 'num'), ((5, 3),))
        lost = kept_of(HEAP, 1, (('push', (1,)), ('clear', ()), ('push', (2,)), ('idle', ())))
        lost.let_go((0, 1, 2, 3))
        self.assertEqual([history(lost, 0, 'key'), history(lost, 1, 'key')], [((1, 1),), ((3, 2),)])
        again = program_of('fields f g', 'doors a b', 'part m n', 'new a', 'set a f n', 'part hide', 'put b 0',
                           'part show', 'get b a g', 'part tie', 'set a g b', 'part both n', 'new b', 'set b f n')
        kept = kept_of(again, 1, (('m', (1,)), ('both', (5,)), ('hide', ()), ('tie', ())))
        kept.let_go((0, 1, 2, 3))
        # Not asked at moment 3, and freed behind moment 4.
        self.assertEqual([history(kept, 1, 'f'), raised(self, NoRecord, history, kept, 2, 'f')], [((2, 5),), 2])

    def test_no_record(self):
        kept = heap()
        for value in odd_values() + [2, -1, '0', (0,), R0, 0.0]:
            if type(value) is not int or value not in (0, 1):
                self.assertIs(raised(self, NoRecord, history, kept, value, None), value)
        self.assertEqual(raised(self, NoRecord, history, Kept(HEAP, 1), 0, 'key'), 0)

    def test_no_field_no_door(self):
        kept = heap()
        for value in odd_values() + ['head', 'Key', 'key ', 'r', 'push', ('key',)]:
            self.assertIs(raised(self, NoField, history, kept, 0, value), value)
        for value in odd_values() + ['key', 'after', 'r', 'push', ('head',)]:
            self.assertIs(raised(self, NoDoor, door_history, kept, value), value)


class RowsTest(unittest.TestCase):

    def test_since_and_until(self):
        for spare in SPARES:
            kept = heap(spare)
            self.assertEqual([since(kept, 3, 1, 'after'), until(kept, 3, 0, 'key'), since(kept, 5, 1, 'key')],
                             [2, 5, 3])
            self.assertEqual([since(kept, moment, 0, 'key') for moment in (1, 2, 5)], [1, 1, 1])
            self.assertEqual([until(kept, moment, 1, 'key') for moment in (2, 3, 4, 5)], [2, 5, 5, 5])

    def test_a_row_ends_where_another_value_is_held(self):
        kept = marked(3, 4, 4, 3, 3, 0, 3)
        self.assertEqual([since(kept, moment, 0, 'key') for moment in range(1, 8)], [1, 2, 2, 4, 4, 6, 7])
        self.assertEqual([until(kept, moment, 0, 'key') for moment in range(1, 8)], [1, 3, 3, 5, 5, 6, 7])
        self.assertEqual(since(kept=kept, moment=5, record=0, field='key'), 4)
        self.assertEqual(until(kept=kept, moment=4, record=0, field='key'), 5)

    def test_moments_that_were_let_go_end_no_row(self):
        kept = marked(3, 4, 3, 3, 5, 5)
        kept.let_go((1, 3, 5))
        self.assertEqual(kept.wanted, (1, 3, 5, 6))
        self.assertEqual([until(kept, 1, 0, 'key'), since(kept, 3, 0, 'key'), since(kept, 6, 0, 'key')], [3, 1, 5])

    def test_a_moment_at_which_it_cannot_be_asked_ends_the_row(self):
        program = program_of('fields f g', 'doors a b', 'part m', 'new a', 'new b', 'set a f 7', 'set b g a',
                             'part hide', 'put c a', 'put a b', 'put b 0', 'part rest', 'get x a g', 'set a g 0',
                             'put b x', 'part bare', 'put x b', 'put b a', 'set b g x', 'put a b', 'part none',
                             'put a 0', 'put b 0')
        kept = kept_of(program, 1, (('m', ()), ('rest', ()), ('bare', ()), ('none', ())))
        kept.let_go((1, 2, 3))
        self.assertEqual([history(kept, 0, 'f'), since(kept, 3, 0, 'f'), until(kept, 1, 0, 'f')], [((1, 7),), 1, 3])

    def test_a_record_that_is_lost_at_a_moment_let_go(self):
        gap = program_of('fields f g', 'doors a b', 'part m', 'new a', 'set a f 7', 'part tie', 'new b', 'set b g a',
                         'part cut', 'put x b', 'put a 0', 'put b 0', 'part rest')
        kept = kept_of(gap, 1, (('m', ()), ('cut', ()), ('rest', ())))
        kept.let_go((1, 2))
        self.assertEqual([history(kept, 0, 'f'), until(kept, 1, 0, 'f')], [((1, 7),), 1])
        self.assertEqual(raised(self, NoRecord, since, kept, 2, 0, 'f'), 0)

    def test_errors_in_sequence(self):
        kept = heap()
        kept.let_go((1, 3))
        for function in (since, until):
            for value in not_moments((1, 3, 5)) + [0, 2, 4]:
                self.assertIs(raised(self, BadMoment, function, kept, value, 99, None), value)
            for value in odd_values() + [2, '0', (0,)]:
                if type(value) is not int or value not in (0, 1):
                    self.assertIs(raised(self, NoRecord, function, kept, 3, value, None), value)
            self.assertEqual(raised(self, NoRecord, function, kept, 1, 1, None), 1)
            self.assertEqual(raised(self, NoRecord, function, kept, 5, 1, None), 1)
            for value in odd_values() + ['head', 'Key']:
                self.assertIs(raised(self, NoField, function, kept, 3, 0, value), value)


class WhenTest(unittest.TestCase):

    def test_when(self):
        for spare in SPARES:
            kept = heap(spare)
            self.assertEqual(when(kept, ('head', 'key'), 5), ((1, 1), (4, 5)))
            self.assertEqual(when(kept, ('head', 'after'), R0), ((2, 3),))
            self.assertEqual(when(kept=kept, way=('head', 'key'), value=None), ((0, 0),))
            self.assertEqual([when(kept, ('head',), value) for value in (0, None, R0, R1, R2)],
                             [((0, 0),), (), ((1, 1), (4, 5)), ((2, 3),), ()])
            self.assertEqual(when(kept, ('head', 'after', 'key'), None), ((0, 1), (4, 5)))

    def test_all_moments_or_none(self):
        kept = kept_of(HEAP, 1, (('idle', ()),) * 3)
        self.assertEqual([when(kept, ('head',), 0), when(kept, ('head', 'key'), None), when(kept, ('head',), 1)],
                         [((0, 3),), ((0, 3),), ()])
        kept.let_go((0, 2))
        self.assertEqual(when(kept, ('head',), 0), ((0, 3),))

    def test_rows_over_moments_let_go(self):
        kept = marked(3, 4, 3, 3, 5, 3)
        self.assertEqual(when(kept, ('head', 'key'), 3), ((1, 1), (3, 4), (6, 6)))
        kept.let_go((1, 3, 4, 6))
        self.assertEqual(when(kept, ('head', 'key'), 3), ((1, 6),))
        self.assertEqual([when(kept, ('head', 'key'), 5), when(kept, ('head', 'key'), None)], [(), ()])
        kept.call('mark', (5,))
        kept.call('mark', (3,))
        self.assertEqual(when(kept, ('head', 'key'), 3), ((1, 6), (8, 8)))

    def test_errors(self):
        kept = heap()
        for value in odd_values() + [('key',), ('head', 'head'), ('head',) + ('after',) * 201, 'head', ['head', 'key']]:
            if value != ('head',):
                self.assertIs(raised(self, BadWay, when, kept, value, 'odd'), value)
        self.assertEqual(when(kept, ('head',) + ('after',) * 200, None), ((0, 5),))
        for value in odd_values() + [('record', -1), ('record', True), ('record', '0'), ('record',), ('record', 0, 0),
                                     ['record', 0], ('copy', 0), (['record'], 0), 'record 0', -10000, 10000]:
            if value is not None and not (type(value) is int and -9999 <= value <= 9999):
                self.assertIs(raised(self, BadValue, when, kept, ('head',), value), value)
        self.assertEqual([when(kept, ('head',), value) for value in (9999, -9999, ('record', 10 ** 8))], [(), (), ()])


class ChangesTest(unittest.TestCase):

    def test_changes(self):
        for spare in SPARES:
            kept = heap(spare)
            self.assertEqual(changes(kept, 1, 3), (('door', 'head', R0, R1), ('made', 1)))
            self.assertEqual(changes(kept, 4, 2), (('door', 'head', R0, R1), ('field', 1, 'key', 9, 7)))
            self.assertEqual(changes(kept=kept, one=2, other=4), (('door', 'head', R1, R0), ('field', 1, 'key', 7, 9)))
            self.assertEqual(changes(kept, 3, 1), (('door', 'head', R1, R0), ('gone', 1)))
            self.assertEqual([changes(kept, moment, moment) for moment in range(6)], [()] * 6)
            self.assertEqual(changes(kept, 0, 5), (('door', 'head', 0, R0), ('made', 0), ('made', 1)))
            self.assertEqual(changes(kept, 4, 5), ())

    def test_all_in_sequence(self):
        kept = kept_of(PAIR, 0, (('make', (1,)), ('turn', ()), ('make', (2,)), ('turn', ()), ('to', ()), ('mark', (5,)),
                                 ('make', (8,))))
        self.assertEqual(changes(kept, 3, 7), (
            ('door', 'a', R1, R2), ('door', 'b', R0, R1), ('field', 0, 'num', 1, 5), ('field', 0, 'link', 0, R1),
            ('made', 2)))
        self.assertEqual(changes(kept, 7, 3), (
            ('door', 'a', R2, R1), ('door', 'b', R1, R0), ('field', 0, 'num', 5, 1), ('field', 0, 'link', R1, 0),
            ('gone', 2)))

    def test_behind_letting_go(self):
        kept = heap()
        kept.let_go((2, 3))
        self.assertEqual(changes(kept, 2, 5), (('door', 'head', R1, R0), ('gone', 1)))
        self.assertEqual(changes(kept, 5, 3), (('door', 'head', R0, R1), ('made', 1)))
        self.assertEqual(changes(kept, 2, 3), (('field', 1, 'key', 7, 9),))
        kept.call('push', (4,))
        # Gone and made are told by records, ascending.
        self.assertEqual(changes(kept, 3, 6), (('door', 'head', R1, R2), ('gone', 1), ('made', 2)))
        self.assertEqual(changes(kept, 6, 2), (('door', 'head', R2, R1), ('made', 1), ('gone', 2)))

    def test_errors(self):
        kept = heap()
        kept.let_go((1, 3))
        for value in not_moments((1, 3, 5)) + [0, 2, 4]:
            self.assertIs(raised(self, BadMoment, changes, kept, value, 'odd'), value)
            self.assertIs(raised(self, BadMoment, changes, kept, 5, value), value)
        self.assertEqual([raised(self, BadMoment, changes, kept, 4, 2), raised(self, BadMoment, changes, kept, 2, 4)],
                         [4, 2])


class AlikeTest(unittest.TestCase):

    def test_alike(self):
        for spare in SPARES:
            self.assertEqual(alike_moments(kept=heap(spare)), ((0,), (1, 4, 5), (2,), (3,)))
            self.assertEqual(alike_moments(Kept(HEAP, spare)), ((0,),))

    def test_by_shapes_not_by_numbers_of_records(self):
        kept = kept_of(HEAP, 1, (('push', (5,)), ('clear', ()), ('push', (5,)), ('push', (5,)), ('pop', ()),
                                 ('pop', ())))
        self.assertEqual(alike_moments(kept), ((0, 2, 6), (1, 3, 5), (4,)))
        kept.let_go((0, 3, 4, 5))
        self.assertEqual(alike_moments(kept), ((0, 6), (3, 5), (4,)))

    def test_each_moment_stands_in_one(self):
        kept = kept_of(WEB, 1, (('make', (1,)), ('turn', ()), ('make', (1,)), ('turn', ()), ('turn', ()),
                                ('mark', (2,)), ('mark', (1,)), ('ring', ()), ('own', ()), ('lose', ())))
        groups = alike_moments(kept)
        self.assertEqual(sorted(moment for group in groups for moment in group), list(range(11)))
        shapes = [{shape(kept.store_at(moment)) for moment in group} for group in groups]
        self.assertEqual([len(found) for found in shapes], [1] * len(groups))
        self.assertEqual(len(set.union(*shapes)), len(groups))
        self.assertEqual([group[0] for group in groups], sorted(group[0] for group in groups))

    def test_nothing_is_changed(self):
        kept = heap()
        elder = kept.memory(), kept.wanted, kept.calls
        history(kept, 0, 'key'), door_history(kept, 'head'), since(kept, 3, 1, 'key'), until(kept, 3, 1, 'key')
        when(kept, ('head',), 0), changes(kept, 1, 3), alike_moments(kept)
        self.assertEqual((kept.memory(), kept.wanted, kept.calls), elder)
        self.assertTrue(kept == heap())


if __name__ == '__main__':
    unittest.main()
