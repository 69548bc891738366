"""Point 7: the remembering machine, rule by rule, and what it can be asked."""

import unittest

from everymoment.errors import (
    BadCalls, BadMoment, BadNumbers, BadSpare, BadWay, Fault, NoDoor, NoField, NoPart, NoProgram, NoRecord)
from everymoment.keeping import Kept, kept_of
from everymoment.memories import is_form, is_memory
from everymoment.shapes import shape
from everymoment.stores import Store, ran
from everymoment.texts import Program
from samples import PILE, STACK, WEB, odd_values, program_of, raised, standing

C0, C1, C2, C3, C4 = [('copy', number) for number in range(5)]
R0, R1, R2 = [('record', number) for number in range(3)]

# Parts that begin with m make records, those that begin with w write.
CELLS = program_of(
    'fields key link', 'doors a b', 'part m', 'new a', 'part mto', 'new r', 'set r link a', 'put a r', 'part mown',
    'new a', 'set a link a', 'part w n', 'set a key n', 'part wb n', 'set b key n', 'part wtwice n', 'set a key n',
    'set a key 1', 'set a key 0', 'part wboth n', 'set a key n', 'set a link n', 'part mark', 'put b a', 'part swap',
    'put r a', 'put a b', 'put b r', 'part tie', 'set b link a', 'part lose', 'put a 0', 'part puts n', 'put b n',
    'put b 5', 'put b 0')


def remembered(program, spare, *calls):
    return kept_of(program, spare, calls).memory()


def copies(spare, *calls):
    return remembered(CELLS, spare, *calls)[1]


def doors(spare, *calls):
    return remembered(CELLS, spare, *calls)[0]


def all_of(kept):
    """All that a Kept tells of itself."""
    found = [kept.program, kept.spare, kept.moment, kept.records, kept.calls, kept.copies, kept.wanted, len(kept),
             kept.memory()]
    for moment in kept.wanted:
        found += [kept.shape_at(moment), standing(kept.store_at(moment))]
    return found


class RulesTest(unittest.TestCase):

    def test_a_new_record_has_a_copy(self):
        self.assertEqual(copies(0, ('m', ()), ('m', ())), ((0, 1, (0, 0), ()), (1, 2, (0, 0), ())))

    def test_contents_of_a_copy_made_at_this_moment(self):
        for spare in (0, 1, 8, None):
            self.assertEqual(copies(spare, ('m', ()), ('mto', ()), ('mown', ())),
                             ((0, 1, (0, 0), ()), (1, 2, (0, C0), ()), (2, 3, (0, C2), ())))

    def test_a_line_of_this_moment_and_field_becomes_so(self):
        for spare in (1, 2, None):
            # What is given back leaves its line.
            self.assertEqual(copies(spare, ('m', ()), ('wtwice', (5,))), ((0, 1, (0, 0), ((2, 'key', 0),)),))

    def test_lines_as_many_as_are_spare(self):
        calls = [('m', ())] + [('w', (number,)) for number in range(1, 11)]
        lines = tuple((number + 1, 'key', number) for number in range(1, 11))
        for spare in range(1, 9):
            found = copies(spare, *calls)
            self.assertEqual(found[0], (0, 1, (0, 0), lines[:spare]))
            self.assertEqual(found[1], (0, spare + 2, (spare + 1, 0), lines[spare + 1:2 * spare + 1]))
        self.assertEqual(copies(None, *calls), ((0, 1, (0, 0), lines),))
        self.assertEqual(copies(0, *calls), tuple((0, number + 1, (number, 0), ()) for number in range(11)))

    def test_what_becomes_nothing_else_is_not_written(self):
        for spare in (0, 1):
            self.assertEqual(copies(spare, ('m', ()), ('w', (0,))), ((0, 1, (0, 0), ()),))
            self.assertEqual(doors(spare, ('m', ()), ('lose', ()), ('lose', ()))[0], ((0, 0), (1, C0), (2, 0)))

    def test_a_record_is_copied_once_a_moment(self):
        self.assertEqual(copies(0, ('m', ()), ('wtwice', (5,))), ((0, 1, (0, 0), ()), (0, 2, (0, 0), ())))
        # The first write takes the line, the second one makes a copy, with the first one in its contents.
        self.assertEqual(copies(1, ('m', ()), ('wboth', (5,))), ((0, 1, (0, 0), ((2, 'key', 5),)), (0, 2, (5, 5), ())))
        self.assertEqual(copies(2, ('m', ()), ('wboth', (5,))), ((0, 1, (0, 0), ((2, 'key', 5), (2, 'link', 5))),))
        # Of two fields the first one is written again behind that: by the first rule, in the copy.
        again = program_of('fields f g', 'doors d', 'part m', 'new d', 'part w', 'set d f 1', 'set d g 2', 'set d f 3')
        self.assertEqual(remembered(again, 1, ('m', ()), ('w', ()))[1],
                         ((0, 1, (0, 0), ((2, 'f', 1),)), (0, 2, (3, 2), ())))

    def test_doors_are_put_to_a_new_copy(self):
        calls = (('m', ()), ('mark', ()), ('w', (5,)), ('w', (6,)))
        self.assertEqual(doors(1, *calls), (((0, 0), (1, C0), (4, C1)), ((0, 0), (2, C0), (4, C1))))
        # A door that was put ahead within the same call has its line led.
        first = program_of('fields f', 'doors d e', 'part m', 'new d', 'part w', 'put e d', 'set d f 1')
        self.assertEqual(remembered(first, 0, ('m', ()), ('w', ()))[0], (((0, 0), (1, C0), (2, C1)), ((0, 0), (2, C1))))

    def test_doors_at_other_records_stay(self):
        calls = (('m', ()), ('mark', ()), ('m', ()), ('w', (5,)))
        self.assertEqual(doors(0, *calls), (((0, 0), (1, C0), (3, C1), (4, C2)), ((0, 0), (2, C0))))

    def test_a_door_that_is_put_several_times(self):
        self.assertEqual(doors(0, ('puts', (0,)))[1], ((0, 0), (1, 0)))
        self.assertEqual(doors(0, ('puts', (3,)), ('puts', (5,)))[1], ((0, 0), (1, 0), (2, 0)))
        self.assertEqual(doors(0, ('m', ()), ('swap', ()), ('swap', ())),
                         (((0, 0), (1, C0), (2, 0), (3, C0)), ((0, 0), (2, C0), (3, 0))))

    def test_all_that_links_to_a_copied_record_is_led(self):
        chain = (('m', ()), ('mark', ()), ('mto', ()), ('mto', ()))
        self.assertEqual(copies(0, *chain, ('wb', (5,)))[3:],
                         ((0, 5, (5, 0), ()), (1, 5, (0, C3), ()), (2, 5, (0, C4), ())))
        self.assertEqual(doors(0, *chain, ('wb', (5,))),
                         (((0, 0), (1, C0), (3, C1), (4, C2), (5, ('copy', 5))), ((0, 0), (2, C0), (5, C3))))
        # With one line each, only the one that is linked to the copied one is led, in its line.
        found = copies(1, *chain, ('wb', (5,)), ('wb', (6,)))
        self.assertEqual(found, ((0, 1, (0, 0), ((5, 'key', 5),)), (1, 3, (0, C0), ((6, 'link', C3),)),
                                 (2, 4, (0, C1), ()), (0, 6, (6, 0), ())))

    def test_a_link_to_itself_is_led(self):
        self.assertEqual(copies(0, ('mown', ()), ('w', (5,))), ((0, 1, (0, C0), ()), (0, 2, (5, C1), ())))
        # Also one that is being written as the record is copied, to link to itself.
        later = program_of('fields f', 'doors d', 'part m', 'new d', 'part w', 'set d f d')
        self.assertEqual(remembered(later, 0, ('m', ()), ('w', ()))[1], ((0, 1, (0,), ()), (0, 2, (C1,), ())))
        # And one that is written to link elsewhere is not.
        self.assertEqual(copies(0, ('mown', ()), ('wboth', (5,))), ((0, 1, (0, C0), ()), (0, 2, (5, 5), ())))

    def test_rings_are_led_around(self):
        ring = (('m', ()), ('mark', ()), ('mto', ()), ('tie', ()))
        self.assertEqual(copies(0, *ring[:3]), ((0, 1, (0, 0), ()), (1, 3, (0, C0), ())))
        # tie copies record 0, which leads record 1, which leads record 0's new copy by the first rule.
        self.assertEqual(copies(0, *ring)[2:], ((0, 4, (0, C3), ()), (1, 4, (0, C2), ())))
        self.assertEqual(copies(0, *ring, ('w', (5,)))[4:], ((1, 5, (5, ('copy', 5)), ()), (0, 5, (0, C4), ())))

    def test_the_sequence_in_which_fields_are_led(self):
        # Records 1, 2 and 3 link to record 0, record 1 by both of its fields; the queue is worked off by records.
        star = program_of('fields f g', 'doors d', 'part m', 'new d', 'new x', 'set x g d', 'set x f d', 'new y',
                          'set y g d', 'new z', 'set z f d', 'set d f y', 'set d g z', 'part w n', 'set d g n')
        found = remembered(star, 0, ('m', ()), ('w', (1,)))[1]
        self.assertEqual([copy[:2] for copy in found[4:]], [(0, 2), (1, 2), (2, 2), (3, 2)])
        self.assertEqual([copy[2] for copy in found[4:]], [(('copy', 6), 1), (C4, C4), (0, C4), (C4, 0)])

    def test_what_is_queued_first_is_led_first(self):
        # 0 is linked to by 1 and 2, 1 by 3, 2 by 4 and 3 by 2: breadth ahead of depth.
        web = program_of('fields f g', 'doors d e', 'part m', 'new a', 'new b', 'new c', 'new o', 'new p', 'set b f a',
                         'set c f a', 'set o f b', 'set p f c', 'set c g o', 'put d a', 'put e p', 'part w',
                         'set d g 1')
        found = remembered(web, 0, ('m', ()), ('w', ()))[1]
        self.assertEqual([copy[0] for copy in found[5:]], [0, 1, 2, 3, 4])
        self.assertEqual([copy[2] for copy in found[5:]],
                         [(0, 1), (('copy', 5), 0), (('copy', 5), ('copy', 8)), (('copy', 6), 0), (('copy', 7), 0)])

    def test_a_led_field_takes_a_line_where_one_is_free(self):
        found = copies(1, ('m', ()), ('mark', ()), ('mto', ()), ('wb', (1,)), ('w', (7,)), ('wb', (2,)))
        # Record 1 has its line used up as it is led, so it is copied, too.
        self.assertEqual(found[1:], ((1, 3, (0, C0), ((5, 'key', 7),)), (0, 6, (2, 0), ()), (1, 6, (7, C2), ())))

    def test_records_that_nothing_comes_to_are_led(self):
        calls = (('m', ()), ('mark', ()), ('mto', ()), ('lose', ()), ('wb', (5,)))
        self.assertEqual(copies(0, *calls)[2:], ((0, 5, (5, 0), ()), (1, 5, (0, C2), ())))

    def test_links_are_to_the_newest_copy(self):
        self.assertEqual(copies(0, ('m', ()), ('w', (1,)), ('mto', ()))[2], (1, 3, (0, C1), ()))
        # In one call: the link is set ahead of the copy, and is led.
        early = program_of('fields f g', 'doors d', 'part m', 'new d', 'part w', 'new x', 'set x f d', 'set d g 1')
        self.assertEqual(remembered(early, 0, ('m', ()), ('w', ()))[1],
                         ((0, 1, (0, 0), ()), (1, 2, (C2, 0), ()), (0, 2, (0, 1), ())))

    def test_with_none_nothing_is_copied(self):
        kept = Kept(WEB, None)
        for name, numbers in (('make', (1,)), ('turn', ()), ('make', (2,)), ('ring', ()), ('busy', (3,)), ('tie', ()),
                              ('busy', (4,)), ('mark', (5,)), ('busy', (6,)), ('own', ()), ('busy', (7,))):
            kept.call(name, numbers)
        self.assertEqual([kept.copies, kept.records], [2, 2])

    def test_parts_called_by_parts(self):
        program = program_of('fields f', 'doors d', 'part in x n', 'set x f n', 'part out', 'new d', 'call in d 4',
                             'part again', 'call in d 6', 'call in d 7')
        self.assertEqual(remembered(program, 1, ('out', ()), ('again', ()))[1], ((0, 1, (4,), ((2, 'f', 7),)),))


class DeedsTest(unittest.TestCase):

    def test_a_kept_at_first(self):
        for spare in list(range(9)) + [None]:
            kept = Kept(CELLS, spare)
            self.assertEqual(all_of(kept)[1:9], [spare, 0, 0, (), 0, (0,), 0, ((((0, 0),), ((0, 0),)), ())])
            self.assertIs(kept.program, CELLS)
            self.assertEqual([kept.read_at(0, ('a',)), kept.read_at(0, ('a', 'key')), kept.door_at(0, 'b')],
                             [0, None, 0])

    def test_bad_spares(self):
        for value in odd_values() + [-1, 9, 10, '0', '1', (0,)]:
            if value is None or type(value) is int and 0 <= value <= 8:
                continue
            with self.subTest(value=value):
                self.assertIs(raised(self, BadSpare, Kept, CELLS, value), value)
                self.assertIs(raised(self, BadSpare, kept_of, CELLS, value, ()), value)
                self.assertIs(raised(self, BadSpare, kept_of, CELLS, value, None), value)

    def test_no_program(self):
        for value in odd_values():
            if not isinstance(value, Program):
                with self.subTest(value=value):
                    self.assertIs(raised(self, NoProgram, Kept, value, 1), value)
                    self.assertIs(raised(self, NoProgram, Kept, value, 'x'), value)
                    self.assertIs(raised(self, NoProgram, kept_of, value, 'x', None), value)

    def test_kept_of(self):
        kept = Kept(program=PILE, spare=1)
        self.assertEqual([kept.call(name='push', numbers=(3,)), kept.call('push', (4,)), kept.call('total', ())],
                         [(), (), (7,)])
        self.assertEqual(all_of(kept_of(program=PILE, spare=1, calls=kept.calls)), all_of(kept))
        self.assertEqual(all_of(kept_of(PILE, 1, ())), all_of(Kept(PILE, 1)))

    def test_bad_calls(self):
        for value in odd_values():
            if not isinstance(value, tuple):
                self.assertIsNone(raised(self, BadCalls, kept_of, PILE, 1, value))
        for value in (None, ('push', (True,)), ('push', [1]), ['push', (1,)], ('pop', ()), ('nope', ()),
                      ('push', (1,), 1)):
            self.assertEqual(raised(self, BadCalls, kept_of, PILE, 1, (('total', ()), value, None)), 1)

    def test_a_call_that_is_refused_changes_nothing(self):
        kept = kept_of(WEB, 0, (('make', (1,)), ('turn', ()), ('make', (2,))))
        elder, equal = all_of(kept), kept.copy()
        # The fault comes behind a record, links and doors; and once more as the calls wouldn't fit.
        self.assertEqual(raised(self, Fault, kept.call, 'fail', (3,)), WEB.part_at('fail')[1])
        for name, numbers in (('nope', ()), (True, ()), (None, None), ('here', (1,)), ('key', ()), (WEB, (1,)),
                              ([], 1)):
            self.assertIs(raised(self, NoPart, kept.call, name, numbers), name)
        for numbers in ((), (1, 2), [1], (True,), (10000,), 1, None, ('1',), (('record', 0),)):
            self.assertIs(raised(self, BadNumbers, kept.call, 'make', numbers), numbers)
        self.assertEqual(all_of(kept), elder)
        self.assertTrue(kept == equal)

    def test_the_201st_record_and_the_2001st_step(self):
        many = program_of('fields f', 'doors d', 'part p', *['new d'] * 100, 'part w', 'while 1', 'end')
        kept = kept_of(many, 1, (('p', ()), ('p', ())))
        self.assertEqual([kept.records, kept.copies], [200, 200])
        self.assertEqual([raised(self, Fault, kept.call, 'p', ()), raised(self, Fault, kept.call, 'w', ())], [4, 105])
        kept.let_go(())
        self.assertEqual([kept.records, kept.copies, raised(self, Fault, kept.call, 'p', ())], [200, 1, 4])

    def test_what_was_told_stays_as_it_was(self):
        kept = kept_of(CELLS, 1, (('m', ()), ('w', (1,))))
        memory = kept.memory()
        frozen = ((((0, 0), (1, C0)), ((0, 0),)), ((0, 1, (0, 0), ((2, 'key', 1),)),))
        kept.call('w', (2,))
        kept.let_go(())
        self.assertEqual(memory, frozen)

    def test_kinds_of_what_is_told(self):
        kept = kept_of(CELLS, 1, (('m', ()), ('w', (1,)), ('w', (1,)), ('w', (2,))))
        kept.let_go((0, 2))
        for held in (kept, kept.copy()):
            self.assertEqual([type(value) for value in (held.moment, held.records, held.copies, held.calls,
                                                        held.wanted)],
                             [int, int, int, tuple, tuple])
            self.assertTrue(is_form(CELLS, held.memory()))
        self.assertIsNone(kept.let_go(()))


class AskedTest(unittest.TestCase):

    def kept(self, spare=1):
        return kept_of(CELLS, spare, (('m', ()), ('mark', ()), ('mto', ()), ('wb', (5,)), ('wb', (6,)), ('lose', ())))

    def test_what_is_read(self):
        for spare in (0, 1, 2, None):
            kept = self.kept(spare)
            self.assertEqual([kept.read_at(moment, ('a', 'link', 'key')) for moment in range(7)],
                             [None, None, None, 0, 5, 6, None])
            self.assertEqual([kept.read_at(moment, ('a',)) for moment in range(7)], [0, R0, R0, R1, R1, R1, 0])
            self.assertEqual([kept.read_at(moment=5, way=('a', 'link')), kept.read_at(2, ('a', 'link'))], [R0, 0])
            self.assertEqual([kept.door_at(moment, 'a') for moment in range(7)], [0, R0, R0, R1, R1, R1, 0])
            self.assertEqual(kept.door_at(moment=2, door='b'), R0)
            self.assertEqual([kept.field_at(moment, 0, 'key') for moment in range(1, 7)], [0, 0, 0, 5, 6, 6])
            self.assertEqual([kept.field_at(moment=6, record=1, field='link'), kept.field_at(3, 1, 'key')], [R0, 0])

    def test_copies_at_moments(self):
        kept = self.kept()
        self.assertEqual([kept.copy_at(moment, 0) for moment in range(1, 7)], [0, 0, 0, 0, 2, 2])
        self.assertEqual([kept.copy_at(moment=moment, record=1) for moment in range(3, 7)], [1, 1, 1, 1])
        self.assertEqual([self.kept(0).copy_at(moment, 1) for moment in range(3, 7)], [1, 3, 5, 5])

    def test_shapes_and_stores_at_moments(self):
        for spare in (0, 1, None):
            kept = self.kept(spare)
            for moment in kept.wanted:
                store = kept.store_at(moment=moment)
                self.assertIs(type(store), Store)
                self.assertTrue(store == ran(CELLS, kept.calls[:moment]))
                self.assertEqual(kept.shape_at(moment=moment), shape(store))
        self.assertEqual(kept.shape_at(5), ((R0, R1), ((0, R1), (6, 0))))
        elder = all_of(kept)
        store.call('w', (9,)) if store.door('a') else store.call('m', ())
        store.back(3)
        self.assertEqual(all_of(kept), elder)

    def test_bad_moments(self):
        kept = self.kept()
        asked = [(kept.read_at, (('nope',),)), (kept.door_at, ('nope',)), (kept.copy_at, (7,)), (kept.shape_at, ()),
                 (kept.field_at, (7, 'nope')), (kept.store_at, ())]
        for value in odd_values() + [-1, 7, 8, 100, '0', ('record', 0)]:
            if type(value) is not int or not 0 <= value <= 6:
                for function, more in asked:
                    with self.subTest(value=value, function=function):
                        self.assertIs(raised(self, BadMoment, function, value, *more), value)

    def test_bad_ways_doors_and_fields(self):
        kept = self.kept()
        for value in odd_values():
            with self.subTest(value=value):
                self.assertIs(raised(self, BadWay, kept.read_at, 3, value), value)
                self.assertIs(raised(self, NoDoor, kept.door_at, 3, value), value)
                self.assertIs(raised(self, NoField, kept.field_at, 3, 1, value), value)
                self.assertIs(raised(self, NoRecord, kept.field_at, 0, 1, value), 1)
        for way in (('a', 'b'), ('key',), ('a',) + ('key',) * 201, ['a'], 'a'):
            self.assertIs(raised(self, BadWay, kept.read_at, 3, way), way)
        self.assertIsNone(kept.read_at(3, ('a',) + ('key',) * 200))
        self.assertEqual(raised(self, NoDoor, kept.door_at, 3, 'key'), 'key')
        self.assertEqual(raised(self, NoField, kept.field_at, 3, 1, 'a'), 'a')

    def test_no_records(self):
        kept = self.kept()
        for value in odd_values() + [-1, 2, 200, '0', ('record', 0)]:
            if type(value) is not int or value not in (0, 1):
                with self.subTest(value=value):
                    self.assertIs(raised(self, NoRecord, kept.copy_at, 6, value), value)
                    self.assertIs(raised(self, NoRecord, kept.field_at, 6, value, None), value)
        # A record can be asked from the moment on at which it was made, come to or not.
        self.assertEqual([raised(self, NoRecord, kept.copy_at, 0, 0), raised(self, NoRecord, kept.copy_at, 2, 1)],
                         [0, 1])
        self.assertEqual([kept.field_at(1, 0, 'key'), kept.field_at(3, 1, 'key'), kept.field_at(6, 1, 'key')],
                         [0, 0, 0])


class CopiesAndEqualityTest(unittest.TestCase):

    def test_copy(self):
        kept = kept_of(CELLS, 1, (('m', ()), ('w', (1,)), ('w', (2,)), ('mto', ())))
        kept.let_go((1, 2))
        kept.call('lose', ())
        other = kept.copy()
        self.assertIs(type(other), Kept)
        self.assertEqual(all_of(other), all_of(kept))
        self.assertTrue(other == kept)
        elder = all_of(kept)
        for held in (kept, other):
            # What can be asked: at moments up to letting go what was come to; behind it what was made by then.
            self.assertEqual([held.copy_at(moment, 0) for moment in (1, 2, 4, 5)], [0, 0, 1, 1])
            self.assertEqual([raised(self, NoRecord, held.copy_at, moment, 1) for moment in (1, 2)], [1, 1])
            self.assertEqual([held.field_at(moment, 1, 'key') for moment in (4, 5)], [0, 0])
        other.call('mto', ())
        self.assertFalse(other == kept)
        other.let_go(())
        self.assertEqual(all_of(kept), elder)
        behind = kept_of(CELLS, 1, (('m', ()), ('lose', ())))
        behind.let_go((1,))
        for held in (behind, behind.copy()):
            held.call('m', ())
            self.assertEqual([held.copy_at(1, 0), held.copy_at(3, 1)], [0, 1])
            self.assertEqual([raised(self, NoRecord, held.copy_at, moment, 0) for moment in (2, 3)], [0, 0])
        for held in (kept, kept.copy()):
            self.assertEqual(raised(self, BadMoment, held.shape_at, 3), 3)
            held.call('m', ())
            held.let_go((5,))
            self.assertEqual(raised(self, NoRecord, held.copy_at, 5, 0), 0)
            self.assertEqual(held.wanted, (5, 6))

    def test_equal(self):
        calls = (('m', ()), ('w', (1,)))
        self.assertTrue(kept_of(CELLS, 1, calls) == kept_of(Program(CELLS.text), 1, calls))
        self.assertFalse(kept_of(CELLS, 1, calls) != kept_of(CELLS, 1, calls))
        for other in (kept_of(CELLS, 2, calls), kept_of(CELLS, None, calls), kept_of(CELLS, 1, calls[:1]),
                      kept_of(CELLS, 1, (('m', ()), ('w', (2,)))), kept_of(CELLS, 0, calls)):
            self.assertFalse(kept_of(CELLS, 1, calls) == other)
            self.assertTrue(kept_of(CELLS, 1, calls) != other)
        self.assertFalse(Kept(CELLS, 0) == Kept(CELLS, None))
        self.assertFalse(Kept(CELLS, 1) == Kept(STACK, 1))

    def test_letting_go_is_a_deed(self):
        calls = (('m', ()), ('w', (1,)))
        one, other = kept_of(CELLS, 1, calls), kept_of(CELLS, 1, calls)
        one.let_go((0, 1, 2))
        # All can be asked as before, and the memory is the same; but not all deeds are.
        self.assertEqual(one.memory(), other.memory())
        self.assertFalse(one == other)
        other.let_go((0, 1))
        self.assertFalse(one == other)
        third = kept_of(CELLS, 1, calls)
        third.let_go((0, 1, 2))
        self.assertTrue(one == third)
        one.call('w', (2,))
        one.let_go(())
        third.let_go(())
        third.call('w', (2,))
        self.assertFalse(one == third)

    def test_equal_to_nothing_else(self):
        kept = Kept(CELLS, 1)
        for value in odd_values() + [(), kept.memory(), kept.program]:
            self.assertIs(kept == value, False)
            self.assertIs(value == kept, False)
            self.assertIs(kept != value, True)

    def test_no_other_operators(self):
        kept, other = Kept(CELLS, 1), Kept(CELLS, 1)
        for deed in (lambda: kept < other, lambda: kept >= other, lambda: kept + other, lambda: 0 in kept,
                     lambda: kept[0]):
            self.assertRaises(TypeError, deed)


class OtherNamesTest(unittest.TestCase):
    """Guarantee (g), and programs of other texts that do the same."""

    CALLS = (('make', (1,)), ('turn', ()), ('make', (2,)), ('ring', ()), ('busy', (3,)), ('tie', ()), ('mark', (5,)),
             ('busy', (4,)), ('own', ()), ('make', (7,)), ('busy', (6,)), ('lose', ()), ('mark', (1,)))

    def renamed(self, value, names):
        if isinstance(value, tuple):
            return tuple(self.renamed(part, names) for part in value)
        return names.get(value, value)

    def test_other_names(self):
        names = {'key': 'z1', 'left': 'y', 'right': 'a', 'here': 'zz', 'there': 'c', 'make': 'k', 'busy': 'aa',
                 'ring': 'q',
                 'r': 'u', 'old': 'b', 'p': 'zzz', 'k': 'w', 'n': 'm'}
        other = Program('\n'.join(' '.join(names.get(word, word) for word in line.split(' '))
                                  for line in WEB.text.split('\n')))
        for spare in (0, 1, 2, None):
            kept, twin = kept_of(WEB, spare, self.CALLS), kept_of(other, spare, self.renamed(self.CALLS, names))
            self.assertEqual(self.renamed(kept.memory(), names), twin.memory())
            kept.let_go((3, 7))
            twin.let_go((3, 7))
            self.assertEqual(self.renamed(kept.memory(), names), twin.memory())
            self.assertEqual([kept.shape_at(moment) for moment in kept.wanted],
                             [twin.shape_at(moment) for moment in twin.wanted])

    def test_another_text_that_does_the_same(self):
        twin = Program(WEB.text + '\nput q 0')
        for spare in (0, 1, None):
            kept, other = kept_of(WEB, spare, self.CALLS), kept_of(twin, spare, self.CALLS)
            self.assertEqual(kept.memory(), other.memory())
            self.assertFalse(kept == other)
            self.assertIs(is_memory(twin, other.calls, kept.memory()), True)


if __name__ == '__main__':
    unittest.main()
