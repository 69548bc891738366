"""Point 6: shapes, the ways to their rows, and what parts two of them."""

import unittest

from everymoment.errors import BadShape, BadWay, NoProgram, NoRecord
from everymoment.shapes import come_to, is_shape, linkers, parting, shape, shape_read, shows_parting, way_to
from everymoment.stores import Store, ran
from everymoment.texts import Program
from samples import PILE, STACK, WEB, deep, odd_values, program_of, raised

ROWS = program_of('fields key next', 'doors top last', 'part push n', 'new r', 'set r key n', 'set r next top',
                  'put top r', 'part mark', 'put last top', 'part ring', 'set last next top', 'part lone n', 'new last',
                  'set last key n', 'part drop', 'put top 0', 'part many n', 'while n', 'new r', 'set r next top',
                  'put top r', 'add n n -1', 'end', 'part own', 'set top key top', 'set top next top')

R0, R1, R2, R3 = [('record', number) for number in range(4)]
TWO = ((R0, R1), ((7, R1), (5, 0)))
NONE = ((0, 0), ())


def rows_store(*calls):
    return ran(ROWS, calls)


def chain():
    """A store with as many records as can be, one behind another."""
    return rows_store(('many', (100,)), ('many', (100,)))


class StoreShapesTest(unittest.TestCase):

    def test_no_records(self):
        self.assertEqual([shape(Store(ROWS)), come_to(Store(ROWS)), linkers(Store(ROWS))], [NONE, (), ()])

    def test_records_are_numbered_as_they_are_met(self):
        store = rows_store(('push', (5,)), ('mark', ()), ('push', (6,)), ('push', (7,)))
        # First the doors: top holds record 2, last record 0; then the next of record 2.
        self.assertEqual(shape(store), ((R0, R1), ((7, R2), (5, 0), (6, R1))))
        self.assertEqual([come_to(store), linkers(store)], [(0, 1, 2), (1, 1, 0)])

    def test_fields_are_met_in_sequence(self):
        store = ran(WEB, (('make', (1,)), ('turn', ()), ('make', (2,)), ('tie', ()), ('make', (3,)), ('turn', ())))
        # Fields of record 2, the second door's: left record 1, right record 0; of record 1: right record 0.
        self.assertEqual([store.door('here'), store.door('there')], [R0, R2])
        self.assertEqual(shape(store), ((R0, R1), ((1, 0, 0), (3, R2, R0), (2, 0, R0))))

    def test_what_nothing_comes_to(self):
        store = rows_store(('push', (5,)), ('push', (6,)), ('drop', ()))
        self.assertEqual([come_to(store), shape(store), linkers(store)], [(), NONE, (1, 0)])
        store.call('lone', (3,))
        self.assertEqual([come_to(store), shape(store)], [(2,), ((0, R0), ((3, 0),))])

    def test_rings_and_links_to_itself(self):
        ring = rows_store(('push', (5,)), ('mark', ()), ('push', (7,)), ('ring', ()))
        self.assertEqual([shape(ring), linkers(ring), come_to(ring)], [((R0, R1), ((7, R1), (5, R0))), (1, 1), (0, 1)])
        own = rows_store(('push', (5,)), ('own', ()))
        self.assertEqual([shape(own), linkers(own)], [((R0, 0), ((R0, R0),)), (2,)])

    def test_doors_that_hold_numbers(self):
        store = ran(program_of('fields f', 'doors d e', 'part p n', 'put d n', 'put e -3'), (('p', (0,)), ('p', (9,))))
        self.assertEqual(shape(store), ((9, -3), ()))

    def test_as_many_records_as_can_be(self):
        store = chain()
        self.assertEqual(shape(store), ((R0, 0), tuple((0, ('record', k + 1)) for k in range(199)) + ((0, 0),)))
        self.assertEqual([come_to(store), linkers(store)], [tuple(range(200)), (1,) * 199 + (0,)])
        self.assertTrue(is_shape(ROWS, shape(store)))
        self.assertEqual(way_to(ROWS, shape(store), 199), ('top',) + ('next',) * 199)

    def test_stores_are_not_changed(self):
        store = rows_store(('push', (5,)), ('mark', ()), ('push', (7,)))
        other = store.copy()
        shape(store), come_to(store), linkers(store)
        self.assertEqual([store == other, store.field(1, 'next'), store.records], [True, R0, 2])
        self.assertEqual([shape(store=store), come_to(store=store), linkers(store=store)], [TWO, (0, 1), (1, 0)])


class IsShapeTest(unittest.TestCase):

    def test_shapes(self):
        for value in (NONE, TWO, ((9999, -9999), ()), ((R0, R0), ((5, 0),)), ((0, R0), ((R0, R1), (0, R0))),
                      ((R0, R1), ((R2, R3), (0, 0), (0, 0), (0, 0))), ((0, R0), ((R1, R2), (R0, 0), (5, R2)))):
            with self.subTest(value=value):
                self.assertIs(is_shape(ROWS, value), True)

    def test_shapes_that_no_call_makes(self):
        self.assertIs(is_shape(program_of('fields f', 'doors d', 'part p'), ((R0,), ((R0,),))), True)

    def test_other_values(self):
        wrong = odd_values() + [
            ((R1, R0), TWO[1]), (TWO[0], TWO[1] + ((0, 0),)), (TWO[0], TWO[1][:1]),
            [TWO[0], TWO[1]], (list(TWO[0]), TWO[1]), (TWO[0], list(TWO[1])), (TWO[0], (list(TWO[1][0]), TWO[1][1])),
            ((0,), ()), ((0, 0, 0), ()), (0, ()), ((0, 0),), ((0, 0), (), ()), ((0, 0), 0), ((0, 0), None),
            ((True, 0), ()), ((0, False), ()), ((10000, 0), ()), ((0, -10000), ()), ((None, 0), ()), (('0', 0), ()),
            ((R0, 0), ((5,),)), ((R0, 0), ((5, 0, 0),)), ((R0, 0), ((5, True),)), ((R0, 0), ((5, 10000),)),
            ((R0, 0), ((5, R1),)), ((R0, 0), ()), ((R0, 0), (5,)), ((R0, 0), ('ab',)), ((R1, 0), ((0, 0), (0, 0))),
            ((0, R0), ((R2, R1), (0, 0), (0, 0))), ((R0, R2), ((R1, 0), (0, 0), (0, 0))),
            ((['record', 0], 0), ((0, 0),)), ((('record', False), 0), ((0, 0),)), ((('record', -1), 0), ((0, 0),)),
            ((('copy', 0), 0), ((0, 0),)), ((('record', 0, 0), 0), ((0, 0),)), ((('record',), 0), ((0, 0),)),
            ((('record', '0'), 0), ((0, 0),)), (((), 0), ()), ((deep(0, 50), 0), ()), ((R0, 0), ((STACK, 0),))]
        for value in wrong:
            with self.subTest(value=value):
                self.assertIs(is_shape(ROWS, value), False)

    def test_at_most_200_rows(self):
        for many in (199, 200, 201, 202):
            rows = tuple((0, ('record', k + 1)) for k in range(many - 1)) + ((0, 0),)
            self.assertIs(is_shape(ROWS, ((R0, 0), rows)), many <= 200)

    def test_no_program(self):
        for value in odd_values():
            if not isinstance(value, Program):
                with self.subTest(value=value):
                    self.assertIs(raised(self, NoProgram, is_shape, value, TWO), value)
        self.assertIs(is_shape(program=ROWS, value=TWO), True)


class ReadTest(unittest.TestCase):

    def test_what_ways_read(self):
        read = {('top',): R0, ('last',): R1, ('top', 'key'): 7, ('top', 'next'): R1, ('last', 'next'): 0,
                ('top', 'next', 'next'): 0, ('top', 'next', 'next', 'key'): None, ('top', 'key', 'key'): None}
        for way, value in read.items():
            self.assertEqual(shape_read(ROWS, TWO, way), value)
        self.assertEqual(shape_read(program=ROWS, shape=NONE, way=('top', 'key')), None)
        self.assertEqual(shape_read(ROWS, ((R0, 0), ((R0, 1),)), ('top',) + ('key',) * 199 + ('next',)), 1)

    def test_errors_in_sequence(self):
        for function, last, error in ((shape_read, ('nope',), BadWay), (way_to, 2, NoRecord)):
            self.assertEqual(raised(self, error, function, ROWS, TWO, last), last)
            self.assertEqual(raised(self, BadShape, function, ROWS, TWO[0], last), TWO[0])
            self.assertEqual(raised(self, NoProgram, function, ROWS.text, TWO[0], last), ROWS.text)

    def test_odd_values(self):
        for value in odd_values():
            with self.subTest(value=value):
                if not isinstance(value, Program):
                    for function, last in ((shape_read, ('top',)), (way_to, 0)):
                        self.assertIs(raised(self, NoProgram, function, value, TWO, last), value)
                self.assertIs(raised(self, BadShape, shape_read, ROWS, value, ('top',)), value)
                self.assertIs(raised(self, BadShape, way_to, ROWS, value, 0), value)
                self.assertIs(raised(self, BadWay, shape_read, ROWS, TWO, value), value)
                if value is not True and value is not False and value in (0, 1):
                    continue
                self.assertIs(raised(self, NoRecord, way_to, ROWS, TWO, value), value)

    def test_the_shortest_way(self):
        self.assertEqual([way_to(ROWS, TWO, 0), way_to(program=ROWS, shape=TWO, number=1)], [('top',), ('last',)])
        one = ((0, R0), ((R1, R2), (R2, R3), (R3, 0), (0, 0)))
        self.assertEqual([way_to(ROWS, one, number) for number in range(4)],
                         [('last',), ('last', 'key'), ('last', 'next'), ('last', 'key', 'next')])

    def test_of_several_shortest_ways_the_first_one(self):
        # Two doors to one record; two fields to one; both doors' records link to one: the first door's comes first.
        self.assertEqual(way_to(ROWS, ((R0, R0), ((5, 0),)), 0), ('top',))
        self.assertEqual(way_to(ROWS, ((0, R0), ((R1, R1), (5, 0))), 1), ('last', 'key'))
        both = ((R0, R1), ((0, R2), (R2, 0), (0, 0)))
        self.assertEqual(way_to(ROWS, both, 2), ('top', 'next'))
        square = ((R0, 0), ((R1, R2), (0, R3), (R3, 0), (0, 0)))
        self.assertEqual(way_to(ROWS, square, 3), ('top', 'key', 'next'))

    def test_a_shorter_way_comes_ahead_of_an_earlier_door(self):
        one = ((R0, R1), ((R2, 0), (0, 0), (R3, 0), (0, 0)))
        self.assertEqual(way_to(ROWS, one, 1), ('last',))
        self.assertEqual(way_to(ROWS, ((R0, R1), ((R2, 0), (0, R3), (R3, 0), (0, 0))), 3), ('last', 'next'))


class PartingTest(unittest.TestCase):

    def assert_parted(self, one, other, right):
        """Asserts that parting tells one of these PARTINGS, that all of them are shown, and nothing else odd is."""
        for first, second in ((one, other), (other, one)):
            found = parting(ROWS, first, second)
            self.assertIn(found, right)
            for value in right:
                self.assertIs(shows_parting(ROWS, first, second, value), True)
                self.assertIs(shows_parting(ROWS, first, second, value[1:]), False)
                self.assertIs(shows_parting(ROWS, first, second, ('two',) + value[1:]), False)
                self.assertIs(shows_parting(ROWS, first, second, value + (('top',),)), False)
                self.assertIs(shows_parting(ROWS, first, second, list(value)), False)
            for value in odd_values():
                self.assertIs(shows_parting(ROWS, first, second, value), False)

    def test_equal_shapes(self):
        for one in (NONE, TWO):
            self.assertIsNone(parting(ROWS, one, one))
            self.assertIs(shows_parting(ROWS, one, one, None), True)
            for value in odd_values() + [('read', ('top',)), ('read', ('top', 'key')), ('one', ('top',), ('last',)),
                                         ('one', ('top',), ('top',))]:
                if value is not None:
                    self.assertIs(shows_parting(ROWS, one, one, value), False)

    def test_numbers(self):
        self.assert_parted(((5, 0), ()), ((6, 0), ()), [('read', ('top',))])
        self.assert_parted(((0, R0), ((0, 1),)), ((0, R0), ((0, 2),)), [('read', ('last', 'next'))])

    def test_a_number_and_a_record(self):
        self.assert_parted(((0, R0), ((0, 0),)), NONE,
                           [('read', ('last',)), ('read', ('last', 'key')), ('read', ('last', 'next'))])
        longer = ((R0, 0), ((0, R0),))
        right = [('read', ('top', 'next') + names)
                 for names in ((), ('key',), ('next',), ('next', 'key'), ('next',) * 199)]
        self.assert_parted(longer, ((R0, 0), ((0, 0),)), right)

    def test_one_record_and_two(self):
        same, twins = ((R0, R0), ((5, 0),)), ((R0, R1), ((5, 0), (5, 0)))
        self.assert_parted(same, twins, [('one', ('top',), ('last',)), ('one', ('last',), ('top',))])
        ring = ((R0, 0), ((R0, R0),))
        self.assert_parted(ring, ((R0, 0), ((R0, R1), (R0, R0))), [
            ('one', ('top',), ('top', 'next')), ('one', ('top', 'key'), ('top', 'next')),
            ('one', ('top', 'next'), ('top', 'next', 'next')), ('one', ('top', 'next'), ('top', 'next', 'key'))])
        # Either links back to an elder record: the first place that is unlike leads to one of two met ahead.
        self.assert_parted(((R0, R1), ((0, 0), (R0, 0))), ((R0, R1), ((0, 0), (R1, 0))),
                           [('one', ('top',), ('last', 'key')), ('one', ('last',), ('last', 'key'))])

    def test_no_partings(self):
        same, twins = ((R0, R0), ((5, 0),)), ((R0, R1), ((5, 0), (5, 0)))
        wrong = [None, ('read', ('top',)), ('read', ('last',)), ('read', ('top', 'key')), ('read', ('top', 'key', 'key')), ('read',),
                 ('one', ('top',), ('top',)), ('one', ('top',)), ('one', ('top',), ('last', 'key')),
                 ('one', ('top',), ('last',), ('top',)), ('read', ('top',), ('last',)), ['one', ('top',), ('last',)],
                 ('one', ['top'], ('last',)), ('one', ('top',), 'last'), ('two', ('top',), ('last',)),
                 ('one', ('top',), ('nope',)), ('one', (), ('last',)), ('one',), (), ('read', None), ('one', 1, 2),
                 (('top',), ('last',)), ('one', ('top', 'next', 'next'), ('last', 'next', 'next'))]
        for value in wrong:
            with self.subTest(value=value):
                self.assertIs(shows_parting(ROWS, same, twins, value), False)
        for value in (('one', ('top',)), ('read', ('top',), ('top',)), ('reads', ('top',)), (None, ('top',)), ('top',)):
            self.assertIs(shows_parting(ROWS, ((5, 0), ()), NONE, value), False)
        empty = ((R0, 0), ((0, 0),))
        for value in (('read', ('top', 'key')), ('one', ('top',), ('last',)), ('read', ('last', 'key')),
                      ('one', ('top',), ('top', 'next')), ('read', ('top', 'next') + ('next',) * 200)):
            self.assertIs(shows_parting(ROWS, empty, ((R0, 0), ((0, R0),)), value), False)

    def test_the_longest_chains(self):
        one = shape(chain())
        other = (one[0], one[1][:199] + ((0, ('record', 199)),))
        self.assertEqual(parting(ROWS, one, other), ('read', ('top',) + ('next',) * 200))
        third = (one[0], one[1][:199] + ((0, ('record', 198)),))
        found = parting(ROWS, third, other)
        self.assertIs(shows_parting(ROWS, third, other, found), True)
        self.assertEqual(sorted(map(len, found[1:])), [199, 201])

    def test_errors_in_sequence(self):
        for function, more in ((parting, ()), (shows_parting, (None,))):
            self.assertEqual(raised(self, BadShape, function, ROWS, TWO, 5, *more), 5)
            self.assertEqual(raised(self, BadShape, function, ROWS, 4, 5, *more), 4)
            self.assertEqual(raised(self, NoProgram, function, 3, 4, 5, *more), 3)
            for value in odd_values():
                with self.subTest(value=value):
                    self.assertIs(raised(self, BadShape, function, ROWS, value, TWO, *more), value)
                    self.assertIs(raised(self, BadShape, function, ROWS, TWO, value, *more), value)
                    if not isinstance(value, Program):
                        self.assertIs(raised(self, NoProgram, function, value, TWO, TWO, *more), value)
        # A SHAPE of another program: PILE has one door alone.
        self.assertEqual(raised(self, BadShape, parting, PILE, TWO, TWO), TWO)
        self.assertIsNone(parting(program=ROWS, one=TWO, other=TWO))
        self.assertIs(shows_parting(program=ROWS, one=TWO, other=NONE, value=None), False)


if __name__ == '__main__':
    unittest.main()
