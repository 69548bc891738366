"""Point 8: the form of a MEMORY, when it is right for calls, and what is read of it."""

import unittest

from everymoment.errors import BadCalls, BadMemory, BadMoment, BadWay, NoProgram
from everymoment.keeping import kept_of
from everymoment.memories import (
    is_form, is_memory, map_at, memory_read, plain_of, shows_wrong_place, stretches, wrong_place)
from everymoment.texts import Program
from samples import STACK, deep, odd_values, program_of, raised

PILE = program_of('fields val link', 'doors top', 'part push x', 'new r', 'set r val x', 'set r link top', 'put top r',
                  'part poke x', 'set top val x', 'part drop', 'put top 0', 'part idle')
TWO_DOORS = program_of('fields val', 'doors top low', 'part push x', 'new top', 'set top val x', 'part turn',
                       'put x top',
                       'put top low', 'put low x')

C0, C1, C2, C3 = [('copy', number) for number in range(4)]
R0, R1 = ('record', 0), ('record', 1)

CALLS = (('push', (5,)), ('push', (7,)), ('poke', (9,)))
DOORS = ((0, 0), (1, C0), (2, C1), (3, C2))
COPIES = ((0, 1, (5, 0), ()), (1, 2, (7, C0), ()), (1, 3, (9, C0), ()))
MEMORY = ((DOORS,), COPIES)
SPARED = ((DOORS[:3],), (COPIES[0], (1, 2, (7, C0), ((3, 'val', 9),))))


def with_doors(*lines):
    """MEMORY with other lines of its door."""
    return ((lines,), COPIES)


def with_copies(*copies):
    return ((DOORS,), copies)


def with_lines(*lines):
    """A MEMORY with these lines in the second one of its copies; the third one is of moment 9."""
    return (((0, 0), (1, C0), (2, C1), (9, C2)),), (COPIES[0], (1, 2, (7, C0), lines), (1, 9, (9, C0), ()))


class FormTest(unittest.TestCase):

    def assert_form(self, value, holds):
        with self.subTest(value=value):
            self.assertIs(is_form(PILE, value), holds)
            self.assertIs(wrong_place(PILE, (), value) == -1, not holds)
            self.assertIs(shows_wrong_place(PILE, (), value, -1), not holds)
            if not holds:
                self.assertIs(is_memory(PILE, (), value), False)
                self.assertIs(shows_wrong_place(PILE, (), value, None), False)
                self.assertIs(raised(self, BadMemory, stretches, PILE, value), value)

    def test_the_form(self):
        good = [MEMORY, SPARED, ((((0, 0),),), ()), ((((0, -9999), (7, 9999)),), ()), with_doors((0, C2)),
                with_doors((0, C0), (100, C0), (999999999, 3)), with_copies(*COPIES, (5, 0, (0, 0), ())),
                ((((0, 0),),), ((8, 0, (0, C0), ()), (3, 7, (C1, C1), ()), (8, 1, (0, 0), ()))),
                with_lines(), with_lines((3, 'val', 1)), with_lines((3, 'val', 1), (3, 'link', 1)),
                with_lines((3, 'link', 1), (3, 'val', 1), (4, 'val', C2)), with_lines((9, 'val', 1), (9, 'link', 1)),
                ((((0, 0),),), ((0, 0, (0, 0), ((1, 'val', 0), (999999999, 'val', 1))),))]
        for value in good:
            self.assert_form(value, True)

    def test_what_is_no_pair_of_doors_and_copies(self):
        for value in odd_values() + [list(MEMORY), MEMORY[:1], MEMORY + ((),), (list(MEMORY[0]), COPIES),
                                     (MEMORY[0], list(COPIES)), (None, COPIES), (MEMORY[0], None), (0, 0), ((), ()),
                                     ((DOORS, DOORS), COPIES), (MEMORY[0][0], COPIES), (deep(0, 50), deep(1, 50))]:
            self.assert_form(value, False)

    def test_lines_of_doors(self):
        for lines in ([], [(1, 0)], [(0, 0), (0, 0)], [(0, 0), (2, 0), (1, 0)], [(0, 0), (3, 0), (3, 1)], [(-1, 0)],
                      [(False, 0)], [(0, 0), (True, 0)], [(0, 0), ('1', 0)], [(None, 0)], [(0,)], [(0, 0, 0)], [[0, 0]],
                      [0], [None], ['ab'], [()], [(0, None)], [(0, True)], [(0, 10000)], [(0, -10000)], [(0, C3)],
                      [(0, ('copy', -1))], [(0, ('copy', True))], [(0, ('copy', '0'))], [(0, R0)], [(0, ('copy',))],
                      [(0, ('copy', 0, 0))], [(0, ['copy', 0])], [(0, ())], [(0, 'copy')], [(0, STACK)], [((0, 0), 0)]):
            self.assert_form(with_doors(*lines), False)
        self.assert_form(((list(DOORS),), COPIES), False)
        self.assert_form(((0,), COPIES), False)

    def test_copies_by_themselves(self):
        for copy in ((0, 1, (5, 0)), (0, 1, (5, 0), (), ()), [0, 1, (5, 0), ()], None, 0, 'abcd', (),
                     (-1, 1, (5, 0), ()),
                     (True, 1, (5, 0), ()), ('0', 1, (5, 0), ()), (None, 1, (5, 0), ()), (R0, 1, (5, 0), ()),
                     (0, -1, (5, 0), ()), (0, False, (5, 0), ()), (0, '1', (5, 0), ()), (0, None, (5, 0), ()),
                     (0, 1, [5, 0], ()), (0, 1, (5,), ()), (0, 1, (5, 0, 0), ()), (0, 1, 5, ()), (0, 1, None, ()),
                     (0, 1, 'ab', ()), (0, 1, (True, 0), ()), (0, 1, (5, None), ()), (0, 1, (10000, 0), ()),
                     (0, 1, (5, C3), ()), (0, 1, (5, ('copy', -1)), ()), (0, 1, (5, R0), ()),
                     (0, 1, (5, ['copy', 0]), ()),
                     (0, 1, (5, 0), []), (0, 1, (5, 0), None), (0, 1, (5, 0), 0), (0, 1, (5, 0), {})):
            self.assert_form(with_copies(copy, *COPIES[1:]), False)

    def test_lines_of_copies(self):
        for lines in ([(2, 'val', 1)], [(2, 'val', 1), (3, 'val', 1)], [(1, 'val', 1)], [(0, 'val', 1)], [(10, 'val', 1)],
                      [(4, 'val', 1), (3, 'val', 1)],
                      [(4, 'val', 1), (3, 'link', 1)], [(3, 'val', 1), (3, 'val', 1)], [(3, 'val', 1), (10, 'link', 1)],
                      [(3, 'val', 1), (3, 'link', 1), (3, 'val', 2)], [(3, 'top', 1)], [(3, 'nope', 1)], [(3, 0, 1)],
                      [(3, None, 1)], [(3, ['val'], 1)], [(3, {}, 1)], [(3, ('val',), 1)], [(True, 'val', 1)],
                      [('3', 'val', 1)], [(None, 'val', 1)], [(-3, 'val', 1)], [(3, 'val')], [(3, 'val', 1, 1)],
                      [[3, 'val', 1]], [3], [None], [()], ['abc'], [(3, 'val', None)], [(3, 'val', True)],
                      [(3, 'val', 10000)], [(3, 'val', C3)], [(3, 'val', R1)], [(3, 'val', ('copy', -1))]):
            self.assert_form(with_lines(*lines), False)

    def test_copies_of_one_record(self):
        self.assert_form(with_copies(*COPIES[::-1]), False)
        self.assert_form(with_copies(COPIES[0], COPIES[1], COPIES[1]), False)
        self.assert_form(with_copies(COPIES[2], COPIES[0], COPIES[1]), False)
        self.assert_form(with_copies(COPIES[1], COPIES[0], COPIES[2]), True)
        # A line may be of the moment of the record's next copy, but of no later one; the copy behind that is all one.
        between = (0, 4, (0, 0), ())
        for moment, holds in ((3, True), (4, True), (5, False), (8, False)):
            lined = (0, 1, (5, 0), ((moment, 'val', 1),))
            self.assert_form(with_copies(lined, COPIES[1], between, (0, 8, (0, 0), ())), holds)
        self.assert_form(with_copies((0, 1, (5, 0), ((5, 'val', 1),)), (1, 4, (0, 0), ()), (2, 4, (0, 0), ())), True)

    def test_the_form_is_of_the_program(self):
        self.assertIs(is_form(STACK, MEMORY), True)
        self.assertIs(is_form(STACK, SPARED), False)
        self.assertIs(is_form(TWO_DOORS, MEMORY), False)
        self.assertIs(is_form(program=PILE, value=MEMORY), True)


class RightTest(unittest.TestCase):

    def assert_places(self, program, calls, claim, places):
        """Asserts that these places alone are wrong."""
        with self.subTest(claim=claim):
            self.assertIs(is_memory(program, calls, claim), not places)
            self.assertIn(wrong_place(program, calls, claim), places or [None])
            candidates = [None, -1, 0, ('record',), ('record', 0, 0)] + [('record', record) for record in range(-1, 5)]
            # No words but these three begin a place.
            candidates += [(word,) + place[1:] for place in places for word in ('', None, 'places')]
            candidates += [('door', door, at) for door in ('top', 'low', 'val', None) for at in range(-1,
                                                                                                      len(calls) + 2)]
            candidates += [('copy', number, field, at) for number in range(-1, len(claim[1]) + 1)
                           for field in ('val', 'link', 'top') for at in range(-1, len(calls) + 2)]
            for value in candidates:
                shown = value in places or value is None and not places
                self.assertIs(shows_wrong_place(program, calls, claim, value), shown, value)

    def test_right_ones(self):
        for claim in (MEMORY, SPARED):
            self.assert_places(PILE, CALLS, claim, [])
        for spare in (0, 1, 2, 3, 8, None):
            self.assert_places(PILE, CALLS, kept_of(PILE, spare, CALLS).memory(), [])
        self.assert_places(PILE, (), ((((0, 0),),), ()), [])

    def test_how_many_copies_and_lines_is_all_one(self):
        idle = CALLS + (('idle', ()),)
        self.assert_places(PILE, idle, MEMORY, [])
        # A copy more than there need be, to which all leads from moment 3 on; lines that change nothing.
        more = (((0, 0), (1, C0), (2, C1), (3, C3)),), (
            COPIES[0], (1, 2, (7, C0), ()), (0, 3, (5, 0), ((4, 'val', 5),)), (1, 3, (9, C2), ((4, 'link', C2),)))
        self.assert_places(PILE, idle, more, [])
        # Copies may stand in another sequence, only those of one record not.
        turned = (((0, 0), (1, C2), (2, C0), (3, C1)),), ((1, 2, (7, C2), ()), (1, 3, (9, C2), ()), (0, 1, (5, 0), ()))
        self.assert_places(PILE, CALLS, turned, [])

    def test_what_is_told_behind_the_last_moment_is_all_one(self):
        later = ((DOORS + ((4, 77), (9, C0)),), COPIES + ((0, 4, (66, 66), ((5, 'val', 1),)),))
        self.assert_places(PILE, CALLS, later, [])
        self.assert_places(PILE, CALLS[:2], MEMORY, [])
        self.assert_places(PILE, CALLS[:1], MEMORY, [('record', 1)])
        self.assert_places(PILE, CALLS[:1], (MEMORY[0], COPIES[:1] + ((0, 2, (0, 0), ()), (0, 3, (0, 0), ()))), [])

    def test_records(self):
        self.assert_places(PILE, CALLS, with_copies(*COPIES, (2, 3, (0, 0), ())), [('record', 2)])
        self.assert_places(PILE, CALLS, with_copies(*COPIES, (4, 0, (1, 1), ())), [('record', 4)])
        self.assert_places(PILE, CALLS, with_copies(*COPIES, (3, 99, (1, 1), ())), [('record', 3)])
        gone = ((((0, 0), (1, 0), (2, C0), (3, C1)),), ((1, 2, (7, 0), ()), (1, 3, (9, 0), ())))
        self.assert_places(PILE, CALLS, gone, [
            ('record', 0), ('door', 'top', 1), ('copy', 0, 'link', 2), ('copy', 1, 'link', 3)])
        self.assert_places(PILE, CALLS[:1], ((((0, 0), (1, 5)),), ()), [('record', 0), ('door', 'top', 1)])

    def test_a_record_that_begins_at_another_moment(self):
        # Too early: ahead of when it is made nothing more is asked of its copies. Too late: nothing can lead there.
        self.assert_places(PILE, CALLS, with_copies((0, 0, (5, 0), ()), *COPIES[1:]), [('record', 0)])
        late = with_copies((0, 2, (5, 0), ()), *COPIES[1:])
        self.assert_places(PILE, CALLS, late, [('record', 0), ('door', 'top', 1)])
        behind = ((DOORS[:2],), ((0, 2, (5, 0), ()),))
        self.assert_places(PILE, CALLS[:1], behind, [('record', 0), ('door', 'top', 1)])

    def test_doors(self):
        self.assert_places(PILE, CALLS, with_doors((0, 1), *DOORS[1:]), [('door', 'top', 0)])
        self.assert_places(PILE, CALLS, with_doors(DOORS[0], *DOORS[2:]), [('door', 'top', 1)])
        self.assert_places(PILE, CALLS, with_doors(*DOORS[:2], (3, C2)), [('door', 'top', 2)])
        self.assert_places(PILE, CALLS, with_doors(*DOORS[:3]), [('door', 'top', 3)])
        self.assert_places(PILE, CALLS, with_doors(*DOORS[:3], (3, 9)), [('door', 'top', 3)])
        self.assert_places(PILE, CALLS, with_doors(*DOORS[:3], (3, C0)), [('door', 'top', 3)])
        self.assert_places(PILE, CALLS, with_doors((0, C0), *DOORS[2:]), [('door', 'top', 0)])
        # A copy whose stretch has ended, or has not begun yet, stands for nothing.
        self.assert_places(PILE, CALLS, with_doors(*DOORS[:2], (2, C2)), [('door', 'top', 2)])

    def test_doors_by_their_names(self):
        calls = (('push', (5,)), ('turn', ()))
        right = ((((0, 0), (1, C0), (2, 0)), ((0, 0), (2, C0))), ((0, 1, (5,), ()),))
        self.assert_places(TWO_DOORS, calls, right, [])
        self.assert_places(TWO_DOORS, calls, (right[0][::-1], right[1]), [
            ('door', 'top', 1), ('door', 'low', 1), ('door', 'top', 2), ('door', 'low', 2)])

    def test_copies(self):
        bent = with_copies(*COPIES[:2], (1, 3, (8, C0), ()))
        self.assert_places(PILE, CALLS, bent, [('copy', 2, 'val', 3)])
        self.assert_places(PILE, CALLS, with_copies((0, 1, (5, 1), ()), *COPIES[1:]),
                           [('copy', 0, 'link', moment) for moment in (1, 2, 3)])
        self.assert_places(PILE, CALLS, with_copies((0, 1, (5, 0), ((3, 'val', 6),)), *COPIES[1:]),
                           [('copy', 0, 'val', 3)])
        self.assert_places(PILE, CALLS, with_copies((0, 1, (5, 0), ((2, 'val', 6), (3, 'val', 5))), *COPIES[1:]),
                           [('copy', 0, 'val', 2)])
        self.assert_places(PILE, CALLS, with_copies(COPIES[0], (1, 2, (7, C1), ()), (1, 3, (9, 5), ())),
                           [('copy', 1, 'link', 2), ('copy', 2, 'link', 3)])
        # The elder copy of record 1 ends with moment 2: what its line of moment 3 tells is all one.
        self.assert_places(PILE, CALLS, with_copies(COPIES[0], (1, 2, (7, C0), ((3, 'val', 0),)), COPIES[2]), [])

    def test_links_to_another_copy_of_the_record(self):
        calls = (('push', (5,)), ('push', (7,)), ('drop', ()))
        two = (((0, 0), (1, C0), (2, C1), (3, 0)),)
        # Record 0 has a second copy from moment 2 on: record 1 must link to that one.
        self.assert_places(PILE, calls, (two, (COPIES[0], (1, 2, (7, C2), ()), (0, 2, (5, 0), ()))), [])
        self.assert_places(PILE, calls, (two, (COPIES[0], (1, 2, (7, C0), ()), (0, 2, (5, 0), ()))),
                           [('copy', 1, 'link', 2), ('copy', 1, 'link', 3)])
        self.assert_places(PILE, calls, (two, (COPIES[0], (1, 2, (7, C0), ((3, 'link', C2),)), (0, 3, (5, 0), ()))), [])
        # What nothing comes to is judged, too.
        self.assert_places(PILE, calls, (two, (COPIES[0], (1, 2, (7, C0), ((3, 'link', C0),)), (0, 3, (5, 0), ()))),
                           [('copy', 1, 'link', 3)])

    def test_places_of_other_kinds(self):
        bent = with_copies((0, 1, (5, 1), ()), *COPIES[1:])
        for value in odd_values() + [
                ['copy', 0, 'link', 1], ('copy', 0, 'link'), ('copy', 0, 'link', 1, 1), ('copy', False, 'link', 1),
                ('copy', 0, 'link', True), ('copy', 0, 'link', '1'), ('copy', 0, ['link'], 1), ('copy', '0', 'link', 1),
                ('copy', None, 'link', 1), ('copy', 0, 'link', None), ('copies', 0, 'link', 1), ('door', 'top', True),
                ('record', True), ('record', '0'), ('record', None), ('door', ['top'], 1), (0, 'link', 1),
                ('door', 'top'),
                ('record', [0]), ('copy', 0, 'link', 4), ('copy', 0, 'link', 0), ('copy', 3, 'link', 1), None, -1,
                True]:
            with self.subTest(value=value):
                self.assertIs(shows_wrong_place(PILE, CALLS, bent, value), False)
        self.assertIs(shows_wrong_place(program=PILE, calls=CALLS, claim=bent, value=('copy', 0, 'link', 1)), True)
        # True is not 1: records 1 and 0 begin at another moment here.
        early = with_copies((0, 0, (5, 0), ()), (1, 1, (7, C0), ()), COPIES[2])
        found = [shows_wrong_place(PILE, CALLS, early, ('record', record)) for record in (0, 1, False, True)]
        self.assertEqual(found, [True, True, False, False])

    def test_places_of_what_is_no_memory(self):
        for claim in odd_values():
            for value in odd_values() + [('record', 0), ('door', 'top', 0), -2, 1, '-1', (-1,)]:
                shown = type(value) is int and value == -1
                self.assertIs(shows_wrong_place(PILE, CALLS, claim, value), shown)
            self.assertEqual(wrong_place(program=PILE, calls=CALLS, value=claim), -1)

    def test_what_is_let_go_is_not_right_but_has_the_form(self):
        kept = kept_of(PILE, 0, CALLS)
        kept.let_go((2,))
        self.assertIs(is_form(PILE, kept.memory()), True)
        self.assertEqual(wrong_place(PILE, CALLS, kept.memory()), ('door', 'top', 1))

    def test_errors_in_sequence(self):
        for function, more in ((is_memory, (MEMORY,)), (wrong_place, (MEMORY,)), (shows_wrong_place, (MEMORY, None))):
            self.assertEqual(raised(self, NoProgram, function, 5, None, *more), 5)
            self.assertIsNone(raised(self, BadCalls, function, PILE, list(CALLS), *more))
            for call in (('nope', ()), ('push', ()), None, ('poke', (1,)), ['push', (1,)]):
                self.assertEqual(raised(self, BadCalls, function, PILE, (('idle', ()), call), *more), 1)
            # They come first, also ahead of what is no MEMORY.
            self.assertEqual(raised(self, BadCalls, function, PILE, (None,), *([None] * len(more))), 0)
        self.assertIs(is_memory(program=PILE, calls=CALLS, value=MEMORY), True)


class ReadTest(unittest.TestCase):

    def test_stretches(self):
        self.assertEqual(stretches(PILE, MEMORY), ((0, 1, None), (1, 2, 2), (1, 3, None)))
        self.assertEqual(stretches(program=PILE, memory=((((0, 0),),), ())), ())
        mixed = ((((0, 0),),), ((8, 0, (0, 0), ()), (3, 7, (0, 0), ()), (8, 1, (0, 0), ()), (8, 6, (0, 0), ())))
        self.assertEqual(stretches(PILE, mixed), ((8, 0, 0), (3, 7, None), (8, 1, 5), (8, 6, None)))

    def test_map_at(self):
        self.assertEqual([map_at(PILE, MEMORY, moment) for moment in (0, 1, 2, 3, 999999999)],
                         [(), ((0, 0),), ((0, 0), (1, 1)), ((0, 0), (1, 2)), ((0, 0), (1, 2))])
        mixed = ((((0, 0),),), ((8, 0, (0, 0), ()), (3, 7, (0, 0), ()), (8, 1, (0, 0), ())))
        self.assertEqual(map_at(program=PILE, memory=mixed, moment=7), ((3, 1), (8, 2)))

    def test_memory_read(self):
        for memory in (MEMORY, SPARED):
            self.assertEqual([memory_read(PILE, memory, moment, ('top', 'val')) for moment in range(5)],
                             [None, 5, 7, 9, 9])
            self.assertEqual([memory_read(PILE, memory, moment, ('top', 'link')) for moment in range(4)],
                             [None, 0, R0, R0])
            self.assertEqual([memory_read(PILE, memory, moment, ('top',)) for moment in range(4)], [0, R0, R1, R1])
            self.assertEqual(memory_read(PILE, memory, 3, ('top', 'link', 'link', 'val')), None)
            self.assertEqual(memory_read(program=PILE, memory=memory, moment=3, way=('top', 'link', 'val')), 5)

    def test_ways_go_on_in_copies_of_whatever_stretch(self):
        # The door tells a copy that is yet to begin, which links to one that has ended.
        memory = ((((0, C2), (5, C0)),), ((0, 1, (5, 0), ()), (0, 4, (6, 0), ()), (7, 9, (8, C0), ())))
        self.assertEqual([memory_read(PILE, memory, 4, ('top',) + names) for names in ((), ('val',), ('link',))],
                         [('record', 7), 8, R0])
        self.assertEqual([memory_read(PILE, memory, moment, ('top', 'link', 'val')) for moment in (0, 4)], [5, 5])
        self.assertEqual(memory_read(PILE, memory, 5, ('top', 'val')), 5)
        self.assertEqual(plain_of(PILE, memory, 4), ((('record', 7),), ((0, (6, 0)),)))
        self.assertEqual(plain_of(PILE, memory, 0), ((('record', 7),), ()))

    def test_lines_tell_up_to_their_moment(self):
        memory = with_lines((3, 'val', 1), (3, 'link', C2), (5, 'val', 2), (9, 'val', 3))
        self.assertEqual([memory_read(PILE, memory, moment, ('top', 'val')) for moment in range(2, 11)],
                         [7, 1, 1, 2, 2, 2, 2, 9, 9])
        self.assertEqual([memory_read(PILE, memory, moment, ('top', 'link')) for moment in (2, 3, 8, 9)],
                         [R0, R1, R1, R0])

    def test_plain_of(self):
        self.assertEqual(plain_of(PILE, MEMORY, 2), ((R1,), ((0, (5, 0)), (1, (7, R0)))))
        self.assertEqual(plain_of(PILE, MEMORY, 0), ((0,), ()))
        self.assertEqual(plain_of(program=PILE, memory=SPARED, moment=3), ((R1,), ((0, (5, 0)), (1, (9, R0)))))

    def test_errors_in_sequence(self):
        functions = ((stretches, ()), (map_at, (0,)), (memory_read, (0, ('top',))), (plain_of, (0,)))
        for function, more in functions:
            for value in odd_values():
                with self.subTest(function=function, value=value):
                    if not isinstance(value, Program):
                        self.assertIs(raised(self, NoProgram, function, value, MEMORY, *more), value)
                        self.assertIs(raised(self, NoProgram, function, value, None, *([None] * len(more))), value)
                    self.assertIs(raised(self, BadMemory, function, PILE, value, *more), value)
                    self.assertIs(raised(self, BadMemory, function, PILE, value, *([None] * len(more))), value)
                    if more and (type(value) is not int or value < 0):
                        self.assertIs(raised(self, BadMoment, function, PILE, MEMORY, value, *more[1:]), value)
                        self.assertIs(raised(self, BadMoment, function, PILE, MEMORY, value, *[None] * len(more[1:])),
                                      value)
        for value in odd_values() + [('top', 'top'), ('val',), ('top',) + ('val',) * 201]:
            self.assertIs(raised(self, BadWay, memory_read, PILE, MEMORY, 0, value), value)
        for value in odd_values():
            if not isinstance(value, Program):
                self.assertIs(raised(self, NoProgram, is_form, value, MEMORY), value)
                self.assertIs(raised(self, NoProgram, is_form, value, None), value)


if __name__ == '__main__':
    unittest.main()
