"""Point 9: what remembering costs, and papers of charges."""

import unittest

from everymoment.charges import (
    bound, charges, cheapest, copied, led, most_linkers, price, shows_charges, space, used_lines, written)
from everymoment.errors import BadCalls, BadPrice, BadSpare, Fault, NoCharge, NoProgram
from everymoment.keeping import Kept, kept_of
from everymoment.stores import writes
from everymoment.towers import tower, tower_calls
from samples import CHAIN, ROW, WEB, odd_values, program_of, raised

SPARES = (0, 1, 2, 3, 4, 5, 6, 7, 8, None)
CALLS = (('push', (1,)), ('push', (2,)), ('push', (3,)), ('poke', (4,)), ('poke', (5,)), ('poke', (6,)), ('poke', (7,)))

# Records made in a bundle: so many fields link to the first one, which can be lost.
STAR = program_of('fields key to', 'doors a b', 'part base', 'new a', 'part link', 'new b', 'set b to a', 'part drop',
                  'put a 0', 'put b 0', 'part both', 'set b key a', 'part w n', 'set a key n', 'part swing',
                  'set b to 0', 'set b to a', 'set b to 0')


def costs(kept):
    return written(kept), copied(kept), led(kept), most_linkers(kept)


def row(spare):
    return kept_of(ROW, spare, CALLS)


class CountsTest(unittest.TestCase):

    def test_counts(self):
        self.assertEqual([costs(row(spare)) for spare in (0, 1, 2, None)],
                         [(9, 12, 8, 1), (9, 3, 3, 1), (9, 1, 1, 1), (9, 0, 0, 1)])
        self.assertEqual([space(row(spare)) for spare in (0, 1, 2, None)], [(15, 0), (6, 4), (4, 4), (3, 4)])
        self.assertEqual([used_lines(row(spare)) for spare in (0, 1, 2, None)], [0, 1, 2, 4])
        self.assertEqual([(kept.copies, copied(kept=kept), led(kept=kept)) for kept in [Kept(ROW, 3)]], [(0, 0, 0)])
        self.assertEqual([costs(Kept(ROW, spare)) for spare in SPARES], [(0, 0, 0, 0)] * 10)

    def test_written_is_as_writes_tell(self):
        # A field that is given back what it held within a call counts twice, one that stays as it is does not.
        kept = kept_of(STAR, 1, (('base', ()), ('link', ()), ('swing', ()), ('swing', ()), ('w', (0,)), ('w', (5,))))
        self.assertEqual(written(kept), 1 + 3 + 2 + 0 + 1)
        self.assertEqual(written(kept), len(writes(STAR, kept.calls)))
        self.assertEqual(most_linkers(kept), 1)

    def test_a_call_that_faults_costs_nothing(self):
        broken = program_of('fields f', 'doors a b', 'part m', 'new a', 'set a f a', 'new b', 'part w', 'set a f b',
                            'set b f a', 'set a f a', 'set 0 f 1')
        kept = kept_of(broken, 0, (('m', ()),))
        elder = costs(kept)
        self.assertEqual(elder, (1, 0, 0, 1))
        self.assertEqual(raised(self, Fault, kept.call, 'w', ()), 11)
        self.assertEqual((costs(kept), space(kept)), (elder, (2, 0)))

    def test_led_counts_fields_not_doors(self):
        kept = kept_of(STAR, 0, (('base', ()), ('link', ()), ('link', ()), ('both', ()), ('w', (1,))))
        # Both fields of record 2, and one of record 1; those of the records that are copied by that lead on to none.
        self.assertEqual(costs(kept), (4, 1 + 1 + 2, 3, 3))
        rings = program_of('fields f', 'doors a', 'part m', 'new a', 'set a f a', 'part w', 'set a f 0', 'part v',
                           'set a f a')
        # As it links to itself, and not any more, and again: what is written is what is told.
        self.assertEqual([costs(kept_of(rings, 0, (('m', ()),) + calls)) for calls in (
            (), (('w', ()),), (('w', ()), ('v', ())))], [(1, 0, 0, 1), (2, 1, 0, 1), (3, 2, 1, 1)])

    def test_most_linkers_behind_any_write(self):
        # Within the call, two fields link to a; at its end none does.
        within = program_of('fields f g', 'doors a', 'part m', 'new a', 'new b', 'set b f a', 'set b g a', 'set b f 0',
                            'set b g 0')
        self.assertEqual(most_linkers(kept_of(within, 0, (('m', ()),))), 2)
        # Doors, locals, and what isn't a write, link not.
        doors = program_of('fields f', 'doors a b', 'part m', 'new a', 'put b a', 'put c a', 'set a f 0')
        self.assertEqual(most_linkers(kept_of(doors, 0, (('m', ()),))), 0)
        # Records that nothing comes to link, too, as long as they aren't freed.
        adds = (('link', ()), ('link', ()), ('link', ()))
        self.assertEqual(most_linkers(kept_of(STAR, 0, (('base', ()),) + adds)), 3)
        self.assertEqual(most_linkers(kept_of(STAR, 0, (('base', ()),) + adds + (('drop', ()),))), 3)

    def test_links_that_are_taken_back(self):
        back = program_of('fields f', 'doors a b', 'part m', 'new b', 'new a', 'set b f a', 'set b f 0', 'set b f a',
                          'new c', 'set c f a', 'set c f b', 'set c f 5', 'set b f 5', 'part n', 'set b f a',
                          'set b f b', 'set b f a', 'new c', 'set c f a', 'new d', 'set d f a')
        self.assertEqual([most_linkers(kept_of(back, spare, calls)) for spare in (0, 3)
                          for calls in ((('m', ()),), (('m', ()), ('n', ())))], [2, 3, 2, 3])

    def test_linkers_that_are_freed_count_no_more(self):
        kept = kept_of(STAR, 0, (('base', ()), ('link', ()), ('link', ())))
        kept.let_go(())
        # Record 1 was freed: only record 2 links to record 0, and then record 3, and both at once never 3 fields.
        kept.call('link', ())
        self.assertEqual(most_linkers(kept), 2)
        kept.call('link', ())
        self.assertEqual(most_linkers(kept), 3)
        other = kept_of(STAR, 0, (('base', ()), ('link', ()), ('link', ()), ('link', ())))
        self.assertEqual(most_linkers(other), 3)

    def test_counts_go_on_behind_letting_go(self):
        for spare in SPARES:
            kept = row(spare)
            elder = costs(kept)
            kept.let_go(())
            self.assertEqual(costs(kept), elder)
            self.assertEqual(kept.copies, 3)
            kept.call('poke', (9,))
            more = kept_of(ROW, spare, CALLS)
            more.call('poke', (9,))
            self.assertEqual(written(kept), elder[0] + 1)
            self.assertEqual(kept.copy() == kept, True)
            self.assertEqual(costs(kept.copy()), costs(kept))
            # Lines that went are spare again: so of all that links nothing more is copied than without.
            self.assertLessEqual(copied(kept), copied(more))
        kept = row(0)
        kept.let_go(())
        kept.call('poke', (9,))
        self.assertEqual(costs(kept), (10, 15, 10, 1))

    def test_used_lines_and_space(self):
        kept = row(None)
        self.assertEqual((used_lines(kept), space(kept)), (4, (3, 4)))
        kept.let_go((4, 5))
        self.assertEqual((used_lines(kept), space(kept)), (3, (3, 3)))
        kept.let_go(())
        self.assertEqual((used_lines(kept), space(kept)), (1, (3, 1)))
        lost = kept_of(STAR, 3, (('base', ()), ('w', (1,)), ('w', (2,)), ('drop', ())))
        self.assertEqual((used_lines(lost), space(lost)), (2, (1, 2)))
        lost.let_go((2, 3))
        # Freed: it has no newest copy any more, but lines that are wanted.
        self.assertEqual((used_lines(lost), space(lost)), (0, (1, 2)))
        self.assertEqual(used_lines(Kept(STAR, 0)), 0)
        self.assertEqual(space(Kept(STAR, 0)), (0, 0))

    def test_elder_copies_hold_lines_that_are_not_used_ones(self):
        kept = row(1)
        self.assertEqual([len(copy[3]) for copy in kept.memory()[1]], [1, 1, 1, 1, 0, 0])
        self.assertEqual((used_lines(kept), space(kept)[1]), (1, 4))


class BoundTest(unittest.TestCase):

    def test_bound(self):
        self.assertEqual([bound(row(spare)) for spare in SPARES], [None, 9, 4, 3, 2, 1, 1, 1, 1, 0])
        # Nothing links to anything: p is 0.
        alone = program_of('fields f', 'doors d', 'part m', 'new d', 'part w n', 'set d f n')
        calls = (('m', ()),) + tuple(('w', (number,)) for number in range(1, 8))
        self.assertEqual([bound(kept_of(alone, spare, calls)) for spare in SPARES], [7, 3, 2, 1, 1, 1, 1, 0, 0, 0])
        self.assertEqual([copied(kept_of(alone, spare, calls)) for spare in SPARES], [7, 3, 2, 1, 1, 1, 1, 0, 0, 0])
        self.assertEqual([bound(kept=Kept(ROW, spare)) for spare in SPARES], [0] * 10)

    def test_spare_beside_most_linkers(self):
        for many in range(10):
            calls = (('base', ()),) + (('link', ()),) * many
            self.assertEqual(most_linkers(kept_of(STAR, 0, calls)), many)
            for spare in range(9):
                found = many // (spare - many + 1) if spare >= many else None
                self.assertEqual(bound(kept_of(STAR, spare, calls)), found)
            self.assertEqual(bound(kept_of(STAR, None, calls)), 0)

    def test_towers_pass_the_bound_that_too_few_spare_lines_would_have(self):
        for spare in (0, 1):
            kept = kept_of(tower(2, 3), spare, tower_calls(60))
            self.assertIsNone(bound(kept))
            self.assertGreater(copied(kept), written(kept))
        for spare in (2, 3, 4):
            kept = kept_of(tower(2, 3), spare, tower_calls(60))
            self.assertEqual(bound(kept), written(kept) // (spare - 1))
            self.assertLessEqual(copied(kept), bound(kept))


class PapersTest(unittest.TestCase):

    def test_papers(self):
        kept = row(1)
        self.assertEqual([part[0] for part in charges(kept=kept)], [3, 4, 5])
        self.assertIs(shows_charges(kept=kept, value=charges(kept)), True)
        for spare in (2, 3):
            self.assertIs(shows_charges(row(spare), charges(row(spare))), True)
        self.assertEqual(charges(row(8)), ())
        self.assertEqual(charges(Kept(ROW, 0)), ())

    def test_without_an_end_of_spare_lines_no_copy_is_counted(self):
        kept = row(None)
        self.assertEqual(charges(kept), ())
        self.assertEqual([shows_charges(kept, value) for value in ((), ((3, (0,)),), None, [], 0)],
                         [True, False, False, False, False])

    def test_no_charge(self):
        for kept in (row(0), kept_of(STAR, 1, (('base', ()), ('link', ()), ('link', ())))):
            self.assertIsNone(raised(self, NoCharge, charges, kept))
            for value in ((), None, 5):
                self.assertIsNone(raised(self, NoCharge, shows_charges, kept, value))
        for spare in (1, 8, None):
            for moments in ((), tuple(range(8)), (7,)):
                kept = row(spare)
                kept.let_go(moments)
                for other in (kept, kept.copy()):
                    self.assertIsNone(raised(self, NoCharge, charges, other))
                    self.assertIsNone(raised(self, NoCharge, shows_charges, other, ()))
                kept.call('poke', (8,))
                self.assertIsNone(raised(self, NoCharge, charges, kept))
        first = Kept(ROW, 3)
        first.let_go((0,))
        self.assertIsNone(raised(self, NoCharge, charges, first))

    def test_shown(self):
        kept = row(1)
        good = ((3, (0,)), (4, (5, 6)), (5, (8,)))
        self.assertIs(shows_charges(kept, good), True)
        self.assertIs(shows_charges(kept, ((3, (1, 2, 3)), (4, (0, 4, 5, 7)), (5, (6, 8)))), True)
        # Moments of the writes: 1, 2, 2, 3, 3, 4, 5, 6, 7; of the copies: 5, 7, 7.
        self.assertEqual([write[0] for write in writes(ROW, CALLS)], [1, 2, 2, 3, 3, 4, 5, 6, 7])
        self.assertEqual([copy[1] for copy in kept.memory()[1][3:]], [5, 7, 7])
        self.assertIs(shows_charges(kept, ((3, (6,)), (4, (7,)), (5, (8,)))), True)

    def test_not_shown(self):
        kept = row(1)
        for value in (
                ((3, (7,)), (4, (5,)), (5, (8,))),      # of a later moment
                ((3, (0,)), (4, (0,)), (5, (8,))),      # twice
                ((3, (0,)), (4, (5, 5)), (5, (8,))),
                ((3, (0,)), (4, (6, 5)), (5, (8,))),    # not ascending
                ((3, (0,)), (4, ()), (5, (8,))),        # too few
                ((3, (0,)), (4, (9,)), (5, (8,))),      # no write
                ((3, (0,)), (4, (-1,)), (5, (8,))),
                ((3, (0,)), (5, (5,)), (4, (8,))),      # not in sequence
                ((3, (0,)), (5, (8,))),                 # a copy too few
                ((2, (1,)), (3, (0,)), (4, (5,)), (5, (8,))),
                ((3, (0,)), (4, (5,)), (5, (8,)), (6, (1,))),
                ((3, (0,)), (4, (5,)), (4, (8,))),
                ((3, (False,)), (4, (5,)), (5, (8,))),
                ((3, (True,)), (4, (5,)), (5, (8,))),
                ((3, [0]), (4, (5,)), (5, (8,))),
                ([3, (0,)], (4, (5,)), (5, (8,))),
                [(3, (0,)), (4, (5,)), (5, (8,))],
                ((3, (0,), 0), (4, (5,)), (5, (8,))),
                ((3, 0), (4, (5,)), (5, (8,))),
                ((3,), (4, (5,)), (5, (8,))),
                ((3, ('0',)), (4, (5,)), (5, (8,))),
                (('3', (0,)), (4, (5,)), (5, (8,))),
                ((None, (0,)), (4, (5,)), (5, (8,))),
                (('copy', 3, (0,)), (4, (5,)), (5, (8,)))):
            self.assertIs(shows_charges(kept, value), False, value)
        for value in odd_values():
            self.assertIs(shows_charges(kept, value), False, value)
            self.assertIs(shows_charges(kept, ((3, value), (4, (5,)), (5, (8,)))), False, value)
            self.assertIs(shows_charges(kept, ((3, (value,)), (4, (6,)), (5, (8,)))),
                          type(value) is int and value in (0, 1, 5), value)
            self.assertIs(shows_charges(kept, (value, (4, (5,)), (5, (8,)))), False, value)

    def test_true_is_no_number_of_a_copy(self):
        kept = kept_of(ROW, 0, (('push', (1,)), ('poke', (2,))))
        self.assertEqual([shows_charges(kept, ((number, (0,)),)) for number in (1, True, 0)], [True, False, False])

    def test_each_copy_wants_its_share(self):
        kept = row(2)
        self.assertEqual([(copied(kept), bound(kept))], [(1, 4)])
        shown = [shows_charges(kept, ((3, numbers),))
                 for numbers in ((0, 1), (0,), (), (0, 1, 2), (1, 7), (1, 8))]
        self.assertEqual(shown, [True, False, False, True, True, False])
        # Writes of moments up to its own, but of no later one.
        made = kept.memory()[1][3][1]
        moments = [write[0] for write in writes(ROW, CALLS)]
        for number, moment in enumerate(moments[1:], 1):
            self.assertIs(shows_charges(kept, ((3, (0, number)),)), moment <= made)


class PricesTest(unittest.TestCase):

    def test_prices(self):
        self.assertEqual([price(ROW, CALLS, spare, 10, 1) for spare in (0, 1, 2, None)], [150, 64, 44, 34])
        self.assertEqual(price(program=ROW, calls=CALLS, spare=1, copy_price=0, line_price=1000), 4000)
        self.assertEqual(price(ROW, CALLS, 1, 1000, 0), 6000)
        self.assertEqual([price(ROW, (), spare, 1000, 1000) for spare in SPARES], [0] * 10)

    def test_cheapest(self):
        self.assertEqual(cheapest(ROW, CALLS, 10, 1), (4, 34))
        self.assertEqual(cheapest(ROW, CALLS, 1, 10), (0, 15))
        self.assertEqual(cheapest(program=ROW, calls=CALLS, copy_price=0, line_price=0), (0, 0))
        self.assertEqual(cheapest(ROW, (), 5, 5), (0, 0))
        many = (('push', (1,)),) + tuple(('poke', (number,)) for number in range(2, 14))
        # Twelve lines: none of 0 to 8 is as cheap as any.
        self.assertEqual(cheapest(ROW, many, 100, 1), (None, 112))
        self.assertEqual(cheapest(ROW, many[:9], 100, 1), (8, 108))
        self.assertEqual(cheapest(ROW, many[:10], 100, 1), (None, 109))

    def test_errors_in_sequence(self):
        bad = (('push', (1,)), ('push', ()))
        for value in odd_values():
            if value is not None and not (type(value) is int and 0 <= value <= 8):
                self.assertIs(raised(self, BadSpare, price, ROW, CALLS, value, -1, -1), value)
        for value in odd_values() + [1001]:
            if not (type(value) is int and 0 <= value <= 1000):
                self.assertIs(raised(self, BadPrice, price, ROW, CALLS, 1, value, -1), value)
                self.assertIs(raised(self, BadPrice, price, ROW, CALLS, 1, 0, value), value)
                self.assertIs(raised(self, BadPrice, cheapest, ROW, CALLS, value, -1), value)
                self.assertIs(raised(self, BadPrice, cheapest, ROW, CALLS, 1000, value), value)
            if type(value) is not type(ROW):
                self.assertIs(raised(self, NoProgram, price, value, None, 9, -1, -1), value)
                self.assertIs(raised(self, NoProgram, cheapest, value, None, -1, -1), value)
            if type(value) is not tuple:
                self.assertIsNone(raised(self, BadCalls, price, ROW, value, 9, -1, -1))
                self.assertIsNone(raised(self, BadCalls, cheapest, ROW, value, -1, -1))
        self.assertEqual(raised(self, BadCalls, price, ROW, bad, 9, -1, -1), 1)
        self.assertEqual(raised(self, BadCalls, cheapest, ROW, bad, -1, -1), 1)
        self.assertEqual(raised(self, BadCalls, price, CHAIN, (('mark', (1,)),), 1, 1, 1), 0)
        self.assertEqual([price(ROW, CALLS, 1, 0, 0), price(ROW, CALLS, 1, 1000, 1000)], [0, 10000])

    def test_nothing_is_changed(self):
        kept = row(1)
        elder = kept.memory(), kept.wanted, kept.calls
        for function in (written, copied, led, most_linkers, bound, charges, used_lines, space):
            self.assertEqual(function(kept), function(kept))
        self.assertEqual((kept.memory(), kept.wanted, kept.calls), elder)
        self.assertTrue(kept == row(1))
        self.assertEqual(costs(kept_of(WEB, 1, ())), (0, 0, 0, 0))


if __name__ == '__main__':
    unittest.main()
