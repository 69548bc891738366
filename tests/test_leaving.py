"""Point 11: what is needed to read some moments, and what letting go of all else leaves."""

import unittest

from everymoment.errors import BadMoment, BadMoments, Fault, NoRecord, NotNeeded
from everymoment.keeping import Kept, kept_of
from everymoment.leaving import left, needed, needed_copies, shows_witness, witness
from everymoment.memories import is_form
from everymoment.stores import ran
from samples import WEB, odd_values, program_of, raised

HEAP = program_of('fields num link', 'doors top', 'part push n', 'new r', 'set r num n', 'set r link top', 'put top r',
                  'part raise', 'get v top num', 'add v v 1', 'set top num v', 'part drop', 'get r top link',
                  'put top r',
                  'part idle')
PAIR = program_of('fields num link', 'doors a b', 'part make n', 'new a', 'set a num n', 'part to', 'set a link b',
                  'part turn', 'put r a', 'put a b', 'put b r', 'part mark n', 'set a num n', 'part lose', 'put a 0')

C0, C1, C2, C3 = [('copy', number) for number in range(4)]
R0, R1 = ('record', 0), ('record', 1)

CALLS = (('push', (5,)), ('push', (7,)), ('raise', ()), ('raise', ()), ('drop', ()))


def heap(spare=1):
    return kept_of(HEAP, spare, CALLS)


def bad_moments(wanted):
    """Values that are no ascending tuple of these moments."""
    found = [value for value in odd_values() if value != ()]
    found += [list(wanted), wanted + wanted[-1:], wanted[::-1], (True,), (False, 1), ('0',), (None,), (-1,), (wanted,),
              (wanted[-1] + 1,), wanted[:1] + (999,), (wanted[0], wanted[0]), {0: True}, '0', 0, (0.0,)]
    return found


class NeedsTest(unittest.TestCase):

    def test_needed(self):
        kept = heap()
        self.assertEqual(needed(kept, ()), ((), (), ()))
        self.assertEqual(needed(kept, (0,)), (((0, 0),), (), ()))
        self.assertEqual(needed(kept, (1,)), (((0, 1),), ((0, 0), (0, 1)), ()))
        self.assertEqual(needed(kept, (3,)), (((0, 2),), ((0, 0), (0, 1), (1, 1)), ((1, 0),)))
        self.assertEqual(needed(kept, (4,)), (((0, 3),), ((0, 0), (0, 1), (2, 0), (2, 1)), ()))
        self.assertEqual(needed(kept, (0, 1, 2, 3, 4, 5)), (
            tuple((0, line) for line in range(5)),
            ((0, 0), (0, 1), (1, 0), (1, 1), (2, 0), (2, 1)), ((1, 0),)))
        self.assertEqual(needed(kept=kept, moments=(1, 3)), (((0, 1), (0, 2)), ((0, 0), (0, 1), (1, 1)), ((1, 0),)))

    def test_needs_are_of_several_doors_and_lines(self):
        calls = (('make', (1,)), ('turn', ()), ('make', (2,)), ('to', ()), ('mark', (3,)), ('turn', ()), ('mark', (4,)))
        kept = kept_of(PAIR, None, calls)
        self.assertEqual(kept.memory(), ((((0, 0), (1, C0), (2, 0), (3, C1), (6, C0)), ((0, 0), (2, C0), (6, C1))), (
            (0, 1, (1, 0), ((7, 'num', 4),)), (1, 3, (2, 0), ((4, 'link', C0), (5, 'num', 3))))))
        self.assertEqual(needed(kept, (5, 7)),
                         (((0, 3), (0, 4), (1, 1), (1, 2)), ((0, 0), (0, 1)), ((0, 0), (1, 0), (1, 1))))
        self.assertEqual(needed(kept, (2,)), (((0, 2), (1, 1)), ((0, 0), (0, 1)), ()))
        self.assertEqual(needed_copies(kept, (2,)), (0,))

    def test_needed_copies(self):
        kept = heap()
        self.assertEqual([needed_copies(kept, moments) for moments in ((), (0,), (1,), (2,), (3,), (4,), (5,),
                                                                       (1, 3, 4))],
                         [(), (), (0,), (0, 1), (0, 1), (0, 2), (0,), (0, 1, 2)])
        self.assertEqual(needed_copies(kept=kept, moments=(2, 5)), (0, 1))
        rings = kept_of(WEB, 1, (('make', (1,)), ('turn', ()), ('make', (2,)), ('ring', ()), ('own', ())))
        self.assertEqual(needed_copies(rings, (5,)), tuple(range(rings.copies))[-2:])

    def test_bad_moments(self):
        kept = heap()
        kept.let_go((1, 3))
        for moments in bad_moments(kept.wanted) + [(0,), (2,), (1, 2), (3, 1), (1, 1), (1, 3, 4, 5)]:
            with self.subTest(moments=moments):
                for function, more in ((needed, ()), (needed_copies, ()), (left, ()), (witness, (99,)),
                                       (shows_witness, (99, None)), (Kept.let_go, ())):
                    self.assertIs(raised(self, BadMoments, function, kept, moments, *more), moments)
        self.assertEqual([kept.wanted, kept.copies], [(1, 3, 5), 2])

    def test_nothing_is_changed(self):
        kept, other = heap(), heap()
        needed(kept, (1, 3)), left(kept, ()), needed_copies(kept, (2,)), witness(kept, (3,), 0)
        self.assertEqual([kept.memory(), kept.wanted], [other.memory(), other.wanted])
        self.assertTrue(kept == other)


class WitnessTest(unittest.TestCase):

    def test_witnesses(self):
        kept = heap()
        self.assertEqual(witness(kept, (3,), 0), (3, ('top', 'link')))
        self.assertEqual(witness(kept=kept, moments=(3, 4), copy=2), (4, ('top',)))
        self.assertIn(witness(kept, (0, 1, 2, 5), 0), ((1, ('top',)), (2, ('top', 'link')), (5, ('top',))))
        for moments in ((1, 2, 3, 4, 5), (2,), (4, 5)):
            for copy in needed_copies(kept, moments):
                found = witness(kept, moments, copy)
                self.assertIn(found[0], moments)
                self.assertIs(shows_witness(kept, moments, copy, found), True)

    def test_not_needed(self):
        kept = heap()
        for value in odd_values() + [2, 3, -1, '0', C0]:
            if type(value) is not int or value not in (0, 1):
                with self.subTest(value=value):
                    self.assertIs(raised(self, NotNeeded, witness, kept, (1, 2, 3), value), value)
                    self.assertIs(raised(self, NotNeeded, shows_witness, kept, (1, 2, 3), value, None), value)
        self.assertEqual(raised(self, NotNeeded, witness, kept, (), 0), 0)
        self.assertEqual(raised(self, NotNeeded, shows_witness, kept, (1, 4), 1, (2, ('top',))), 1)

    def test_shown(self):
        kept = heap()
        for moment, way in ((1, ('top',)), (2, ('top', 'link')), (5, ('top',))):
            self.assertIs(shows_witness(kept=kept, moments=(1, 2, 5), copy=0, value=(moment, way)), True)
        own = kept_of(WEB, 2, (('make', (1,)), ('turn', ()), ('own', ())))
        for many in (0, 1, 200):
            self.assertIs(shows_witness(own, (3,), 0, (3, ('there',) + ('right',) * many)), True)
        self.assertIs(shows_witness(own, (3,), 0, (3, ('there',) + ('right',) * 201)), False)

    def test_not_shown(self):
        kept = heap()
        wrong = odd_values() + [
            (3, ('top', 'link')), (2, ('top',)), (2, ('top', 'num')), (2, ('top', 'link', 'num')), (0, ('top',)),
            (1, ('nope',)),
            (2, ('top', 'link', 'link')), (2, ('top', 'link', 'link', 'num')), [1, ('top',)], (1, ['top']), (1, 'top'),
            (1,),
            (1, ('top',), 0), (True, ('top',)), ('1', ('top',)), (1, ()), (('top',), 1), (1, None), (6, ('top',)),
            (1, R0),
            (1, ('link',)), ([1], ('top',))]
        for value in wrong:
            with self.subTest(value=value):
                self.assertIs(shows_witness(kept, (0, 1, 2, 5), 0, value), False)
        # The record's other copy is read at this moment.
        self.assertEqual([kept.read_at(4, ('top',)), kept.read_at(3, ('top',))], [R1, R1])
        self.assertEqual([shows_witness(kept, (3, 4), copy, (moment, ('top',))) for copy in (1, 2) for moment in (3,
                                                                                                                  4)],
                         [True, False, False, True])


class LetGoTest(unittest.TestCase):

    def assert_reads(self, kept):
        """Asserts that all moments that can be asked read as Stores do."""
        for moment in kept.wanted:
            store = ran(kept.program, kept.calls[:moment])
            for door in kept.program.doors:
                for names in ((),) + tuple((one,) for one in kept.program.fields) + tuple(
                        (one, other, one) for one in kept.program.fields for other in kept.program.fields):
                    self.assertEqual(kept.read_at(moment, (door,) + names), store.read((door,) + names))

    def test_what_stays(self):
        kept = heap()
        self.assertEqual([left(kept, (3,)), left(kept, ()), left(kept, (5,)), left(kept, kept.wanted)],
                         [(2, 1), (1, 0), (1, 0), (3, 1)])
        self.assertIsNone(kept.let_go(moments=(3,)))
        self.assertEqual(kept.memory(), ((((0, 0), (2, C1), (5, C0)),), (
            (0, 1, (5, 0), ()), (1, 2, (0, C0), ((3, 'num', 8),)))))
        self.assertEqual([kept.wanted, kept.copies, kept.records, kept.moment, kept.calls], [(3, 5), 2, 2, 5, CALLS])
        self.assert_reads(kept)

    def test_all_and_none(self):
        kept = heap()
        elder = kept.memory()
        kept.let_go(kept.wanted)
        self.assertEqual([kept.memory(), kept.wanted], [elder, (0, 1, 2, 3, 4, 5)])
        kept.let_go(())
        self.assertEqual([kept.memory(), kept.wanted], [((((0, 0), (5, C0)),), ((0, 1, (5, 0), ()),)), (5,)])
        self.assertEqual([kept.records, kept.copies, left(kept, ()), left(kept, (5,))], [2, 1, (1, 0), (1, 0)])
        kept.let_go((5,))
        self.assertEqual(kept.wanted, (5,))
        self.assert_reads(kept)

    def test_at_moment_0(self):
        kept = Kept(HEAP, 1)
        kept.let_go(())
        self.assertEqual([kept.memory(), kept.wanted], [((((0, 0),),), ()), (0,)])
        kept.call('push', (5,))
        kept.let_go((0, 1))
        self.assertEqual([kept.memory(), kept.wanted], [((((0, 0), (1, C0)),), ((0, 1, (5, 0), ()),)), (0, 1)])

    def test_the_first_line_of_a_door_stays(self):
        kept = kept_of(PAIR, 1, (('make', (1,)), ('turn', ()), ('make', (2,)), ('turn', ())))
        kept.let_go((3,))
        self.assertEqual(kept.memory()[0], (((0, 0), (3, C1), (4, C0)), ((0, 0), (2, C0), (4, C1))))
        kept.let_go(())
        self.assertEqual(kept.memory()[0], (((0, 0), (4, C0)), ((0, 0), (4, C1))))

    def test_copies_are_numbered_anew_wherever_they_are_linked_to(self):
        calls = (('make', (1,)), ('turn', ()), ('make', (2,)), ('to', ()), ('mark', (3,)), ('turn', ()), ('mark', (4,)))
        kept = kept_of(PAIR, 0, calls)
        self.assertEqual(kept.memory(), (
            (((0, 0), (1, C0), (2, 0), (3, C1), (4, C2), (5, C3), (6, C0), (7, ('copy', 4))),
             ((0, 0), (2, C0), (6, C3), (7, ('copy', 5)))),
            ((0, 1, (1, 0), ()), (1, 3, (2, 0), ()), (1, 4, (2, C0), ()), (1, 5, (3, C0), ()), (0, 7, (4, 0), ()),
             (1, 7, (3, ('copy', 4)), ()))))
        kept.let_go((4,))
        self.assertEqual(kept.memory(), ((((0, 0), (4, C1), (7, C2)), ((0, 0), (2, C0), (7, C3))), (
            (0, 1, (1, 0), ()), (1, 4, (2, C0), ()), (0, 7, (4, 0), ()), (1, 7, (3, C2), ()))))
        self.assertEqual([kept.copy_at(4, 0), kept.copy_at(4, 1), kept.copy_at(7, 0), kept.copy_at(7, 1)], [0, 1, 2, 3])
        self.assert_reads(kept)
        lines = kept_of(PAIR, 8, calls)
        lines.let_go((4,))
        self.assertEqual(lines.memory()[1], ((0, 1, (1, 0), ((7, 'num', 4),)),
                                             (1, 3, (2, 0), ((4, 'link', C0), (5, 'num', 3)))))

    def test_contents_that_are_not_read_become_0(self):
        kept = kept_of(PAIR, 2, (('make', (1,)), ('mark', (2,)), ('mark', (3,))))
        kept.let_go((2,))
        self.assertEqual(kept.memory()[1], ((0, 1, (0, 0), ((2, 'num', 2), (3, 'num', 3))),))
        kept.let_go((2, 3))
        kept.let_go(())
        self.assertEqual(kept.memory()[1], ((0, 1, (0, 0), ((3, 'num', 3),)),))
        self.assertEqual(kept.read_at(3, ('a', 'num')), 3)

    def test_lines_that_went_are_spare_again(self):
        kept = kept_of(PAIR, 2, (('make', (1,)), ('mark', (2,)), ('mark', (3,))))
        other = kept.copy()
        kept.let_go(())
        kept.call('mark', (4,))
        self.assertEqual(kept.memory()[1], ((0, 1, (0, 0), ((3, 'num', 3), (4, 'num', 4))),))
        other.call('mark', (4,))
        self.assertEqual([other.copies, kept.copies], [2, 1])
        self.assert_reads(kept)

    def test_calls_behind_it(self):
        kept = heap()
        kept.let_go((3,))
        self.assertEqual(kept.call('raise', ()), ())
        self.assertEqual([kept.wanted, kept.memory()[1][0]], [(3, 5, 6), (0, 1, (5, 0), ((6, 'num', 6),))])
        kept.call('push', (8,))
        self.assertEqual([kept.records, kept.copies, kept.read_at(7, ('top',)), kept.copy_at(7, 2)],
                         [3, 3, ('record', 2), 2])
        kept.let_go((3, 6))
        kept.call('raise', ())
        kept.let_go((6,))
        self.assertEqual([kept.wanted, kept.moment], [(6, 8), 8])
        self.assertTrue(is_form(HEAP, kept.memory()))
        self.assert_reads(kept)

    def test_a_call_that_faults_behind_it(self):
        kept = kept_of(HEAP, 1, (('push', (5,)), ('drop', ())))
        kept.let_go((1,))
        elder = kept.memory()
        self.assertEqual(raised(self, Fault, kept.call, 'raise', ()), 9)
        self.assertEqual([kept.memory(), kept.wanted, kept.moment], [elder, (1, 2), 2])

    def test_moments_that_can_be_asked(self):
        kept = heap()
        kept.let_go((1, 3))
        for moment in (0, 2, 4, 6, -1, True):
            self.assertIs(raised(self, BadMoment, kept.shape_at, moment), moment)
            self.assertIs(raised(self, BadMoment, kept.store_at, moment), moment)
        self.assertTrue(kept.store_at(3) == ran(HEAP, CALLS[:3]))
        self.assertEqual([kept.shape_at(moment) for moment in kept.wanted],
                         [((R0,), ((5, 0),)), ((R0,), ((8, R1), (5, 0))), ((R0,), ((5, 0),))])


class FreedTest(unittest.TestCase):

    def test_freed_records_are_never_led_again(self):
        # Record 1 links to record 0, which stays, and nothing comes to it.
        calls = (('make', (1,)), ('turn', ()), ('make', (2,)), ('to', ()), ('lose', ()), ('turn', ()))
        kept = kept_of(PAIR, 0, calls)
        other = kept.copy()
        kept.let_go(())
        self.assertEqual(kept.memory(), ((((0, 0), (6, C0)), ((0, 0), (6, 0))), ((0, 1, (1, 0), ()),)))
        kept.call('mark', (5,))
        self.assertEqual(kept.memory()[1], ((0, 1, (1, 0), ()), (0, 7, (5, 0), ())))
        other.call('mark', (5,))
        self.assertEqual(other.copies - kept.copies, 3)

    def test_freed_records_whose_copies_stay(self):
        calls = (('make', (1,)), ('turn', ()), ('make', (2,)), ('to', ()), ('lose', ()), ('turn', ()))
        kept = kept_of(PAIR, 0, calls)
        kept.let_go((4,))
        stays = kept.memory()[1]
        self.assertEqual(stays, ((0, 1, (1, 0), ()), (1, 4, (2, C0), ())))
        kept.call('mark', (5,))
        self.assertEqual(kept.memory()[1], stays + ((0, 7, (5, 0), ()),))
        self.assertEqual([kept.read_at(4, ('a', 'link', 'num')), kept.read_at(7, ('a', 'num'))], [1, 5])

    def test_what_can_be_asked_of_them(self):
        calls = (('push', (5,)), ('push', (7,)), ('raise', ()), ('drop', ()), ('idle', ()))
        kept = kept_of(HEAP, 1, calls)
        self.assertEqual([kept.field_at(moment, 1, 'num') for moment in (2, 3, 4, 5)], [7, 8, 8, 8])
        kept.let_go((1, 3, 4))
        # At moment 3 a WAY leads to it; at 4 and 5 none does; behind that it is freed.
        self.assertEqual([kept.field_at(3, 1, 'num'), kept.copy_at(3, 1)], [8, 1])
        kept.call('raise', ())
        kept.call('push', (9,))
        for moment in (1, 4, 5, 6, 7):
            self.assertEqual(raised(self, NoRecord, kept.copy_at, moment, 1), 1)
            self.assertEqual(raised(self, NoRecord, kept.field_at, moment, 1, 'num'), 1)
        self.assertEqual([kept.field_at(moment, 0, 'num') for moment in (1, 3, 4, 5, 6, 7)], [5, 5, 5, 5, 6, 6])
        # Record 2 was made behind letting go: it can be asked from then on, come to or not, until the next time.
        self.assertEqual(raised(self, NoRecord, kept.copy_at, 6, 2), 2)
        kept.call('drop', ())
        self.assertEqual([kept.field_at(7, 2, 'num'), kept.field_at(8, 2, 'num')], [9, 9])
        kept.let_go((3, 7))
        self.assertEqual([kept.field_at(7, 2, 'num'), kept.field_at(3, 1, 'num')], [9, 8])
        self.assertEqual(raised(self, NoRecord, kept.field_at, 8, 2, 'num'), 2)
        self.assertEqual(kept.records, 3)

    def test_records_that_a_way_leads_to_have_one_copy_if_nothing_else_is_wanted(self):
        for spare in (0, 1, 2, None):
            kept = kept_of(WEB, spare, (('make', (1,)), ('turn', ()), ('make', (2,)), ('ring', ()), ('busy', (3,)),
                                        ('tie', ()), ('mark', (5,)), ('busy', (4,)), ('make', (7,)), ('busy', (6,))))
            kept.let_go(())
            records = [copy[0] for copy in kept.memory()[1]]
            self.assertEqual(len(records), len(set(records)))
            for _, _, _, lines in kept.memory()[1]:
                self.assertEqual(len(lines), len({field for _, field, _ in lines}))


if __name__ == '__main__':
    unittest.main()
