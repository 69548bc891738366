"""Points 6 to 9, 11 and 12, held against a second reading and against Stores, on many programs and calls."""

import random
import unittest

from everymoment.asking import alike_moments, changes, door_history, history, since, until, when
from everymoment.charges import (
    bound, charges, cheapest, copied, led, most_linkers, price, shows_charges, space, used_lines, written)
from everymoment.errors import BadMoment, Fault, NoCharge, NoRecord
from everymoment.keeping import Kept, kept_of
from everymoment.leaving import left, needed, needed_copies, shows_witness, witness
from everymoment.memories import (
    is_form, is_memory, map_at, memory_read, plain_of, shows_wrong_place, stretches, wrong_place)
from everymoment.shapes import come_to, is_shape, linkers, parting, shape, shape_read, shows_parting, way_to
from everymoment.stores import Store, writes
from everymoment.towers import tower
from maker import programs
from reference import Broken
from remembering import (
    Rememberer, differences, has_form, is_paper, read, rows_of_moments, shape_of, ways, wrong_places)
from samples import CHAIN, ROW, raised, standing

SPARES = (0, 1, 2, 3, 8, None)


def frozen(doors, rows):
    return tuple(doors), tuple(map(tuple, rows))


def rows_of(store):
    return frozen(*standing(store)[5:])


class Pair:
    """A Kept and the second reading of it, which do the same deeds."""

    def __init__(self, test, program, spare, seed):
        self.test, self.program, self.random = test, program, random.Random(seed)
        self.kept, self.other = Kept(program, spare), Rememberer(program.text, spare)
        # What a Store tells at each moment.
        self.states = [rows_of(Store(program))]

    def call(self):
        name, many = self.random.choice(self.program.parts)
        if self.random.random() < 0.7 - self.kept.moment / 10:
            # Where something is made first, more is done.
            name, many = self.program.parts[0]
        numbers = tuple(self.random.randint(-2, 4) for _ in range(many))
        elder = self.kept.memory(), self.kept.calls, self.kept.wanted
        try:
            told = self.other.call(name, numbers)
        except Broken as error:
            self.test.assertEqual(raised(self.test, Fault, self.kept.call, name, numbers), error.args[0])
            self.test.assertEqual((self.kept.memory(), self.kept.calls, self.kept.wanted), elder)
            return
        self.test.assertEqual(self.kept.call(name, numbers), told)
        self.states.append(frozen(*self.other.state()))
        self.check_memory()

    def let_go(self):
        moments = [moment for moment in self.kept.wanted if self.random.random() < 0.5]
        counts = left(self.kept, tuple(moments))
        self.test.assertIsNone(self.kept.let_go(tuple(moments)))
        self.other.let_go(moments)
        self.check_memory()
        self.test.assertEqual(counts, (self.kept.copies, sum(len(copy[3]) for copy in self.kept.memory()[1])))

    def check_memory(self):
        kept = self.kept
        self.test.assertEqual(kept.memory(), self.other.memory())
        self.test.assertEqual(kept.wanted, tuple(self.other.wanted))
        self.test.assertEqual((kept.copies, kept.records, kept.moment, len(kept)),
                              (len(self.other.copies), len(self.other.newest), self.other.moment, self.other.moment))
        self.test.assertTrue(is_form(self.program, kept.memory()))
        self.test.assertEqual([written(kept), copied(kept), led(kept), most_linkers(kept)],
                              [len(self.other.written), self.other.copied, self.other.led, self.other.most])
        self.test.assertEqual([space(kept), used_lines(kept)], [self.other.space(), self.other.used_lines()])
        self.check_bound()

    def check_bound(self):
        """The promise of point 9, at each moment."""
        kept, most = self.kept, self.other.most
        if kept.spare is None:
            self.test.assertEqual([bound(kept), copied(kept)], [0, 0])
        elif kept.spare < most:
            self.test.assertIsNone(bound(kept))
        else:
            each = kept.spare - most + 1
            self.test.assertEqual(bound(kept), len(self.other.written) // each)
            self.test.assertLessEqual(copied(kept), bound(kept))
            self.test.assertLessEqual(used_lines(kept) + each * copied(kept), written(kept))

    def check_moment(self, moment):
        doors, rows = self.states[moment]
        kept, program = self.kept, self.program
        self.test.assertEqual([kept.door_at(moment, door) for door in program.doors], list(doors))
        asked = self.other.asked(moment)
        for record in range(-1, kept.records + 1):
            if record in asked:
                self.test.assertEqual([kept.field_at(moment, record, name) for name in program.fields],
                                      list(rows[record]))
                found = kept.memory()[1][kept.copy_at(moment, record)]
                self.test.assertEqual(found[0], record)
                self.test.assertLessEqual(found[1], moment)
            else:
                self.test.assertEqual(raised(self.test, NoRecord, kept.copy_at, moment, record), record)
                self.test.assertEqual(raised(self.test, NoRecord, kept.field_at, moment, record, 'x'), record)
        for way in ways(program, 2):
            value = read((doors, rows), program, way)
            self.test.assertEqual(kept.read_at(moment, way), value)
        for way in ways(program, 1):
            value = read((doors, rows), program, way)
            self.test.assertEqual(memory_read(program, kept.memory(), moment, way), value)
        self.test.assertEqual(kept.shape_at(moment), shape_of(program, doors, rows))
        store = kept.store_at(moment)
        self.test.assertEqual((store.calls, rows_of(store)), (kept.calls[:moment], (doors, rows)))

    def check_needs(self):
        kept, program = self.kept, self.program
        moments = tuple(moment for moment in kept.wanted if self.random.random() < 0.4)
        needs = self.other.needs(moments)
        self.test.assertEqual(needed(kept, moments), needs)
        copies = tuple(sorted({copy for copy, _ in needs[1] + needs[2]}))
        self.test.assertEqual(needed_copies(kept, moments), copies)
        for copy in copies:
            moment, way = witness(kept, moments, copy)
            self.test.assertIn(moment, moments)
            self.test.assertEqual(kept.read_at(moment, way), ('record', kept.memory()[1][copy][0]))
            self.test.assertTrue(shows_witness(kept, moments, copy, (moment, way)))
        for copy in copies[:2]:
            record = kept.memory()[1][copy][0]
            for moment in moments[:4]:
                for way in ways(program, 1):
                    shown = kept.read_at(moment, way) == ('record', record) and kept.copy_at(moment, record) == copy
                    self.test.assertEqual(shows_witness(kept, moments, copy, (moment, way)), shown)


    def check_history(self):
        """What is told across moments, beside what Stores tell at each of them."""
        kept, program, wanted = self.kept, self.program, self.kept.wanted
        for at, door in enumerate(program.doors):
            values = [self.states[moment][0][at] for moment in wanted]
            self.test.assertEqual(door_history(kept, door), self.turns(list(zip(wanted, values))))
        asked = {moment: self.other.asked(moment) for moment in wanted}
        for record in range(-1, kept.records + 1):
            moments = [moment for moment in wanted if record in asked[moment]]
            if not moments:
                self.test.assertEqual(raised(self.test, NoRecord, history, kept, record, 'x'), record)
            for at, name in enumerate(program.fields if moments else ()):
                values = {moment: self.states[moment][1][record][at] for moment in moments}
                self.test.assertEqual(history(kept, record, name), self.turns(list(values.items())))
                for moment in moments:
                    rows = rows_of_moments(wanted, [values.get(other) == values[moment] for other in wanted])
                    row = [row for row in rows if row[0] <= moment <= row[1]]
                    self.test.assertEqual([(since(kept, moment, record, name), until(kept, moment, record, name))], row)
        for way in ways(program, 2):
            told = [read(self.states[moment], program, way) for moment in wanted]
            for value in set(told) | {None, 0, ('record', 0)}:
                rows = rows_of_moments(wanted, [other == value for other in told])
                self.test.assertEqual(when(kept, way, value), rows)
        for _ in range(6):
            one, other = self.random.choice(wanted), self.random.choice(wanted)
            self.test.assertEqual(changes(kept, one, other), differences(
                program, self.states[one], self.states[other], asked[one], asked[other]))
        shapes = [shape_of(program, *self.states[moment]) for moment in wanted]
        self.test.assertEqual(alike_moments(kept), tuple(
            tuple(moment for moment, other in zip(wanted, shapes) if other == one)
            for at, one in enumerate(shapes) if one not in shapes[:at]))

    @staticmethod
    def turns(pairs):
        return tuple(pair for at, pair in enumerate(pairs) if [pair[1]] != [elder[1] for elder in pairs[:at]][-1:])


class KeptTest(unittest.TestCase):

    def test_deeds_do_the_same(self):
        for number, program in enumerate(programs(3, 30)):
            for spare in SPARES:
                pair = Pair(self, program, spare, number)
                for _ in range(18):
                    pair.call()
                    if pair.random.random() < 0.08:
                        pair.let_go()
                for moment in pair.kept.wanted:
                    pair.check_moment(moment)
                pair.check_needs()
                pair.check_history()
                for moment in set(range(-1, pair.kept.moment + 2)) - set(pair.kept.wanted):
                    self.assertEqual(raised(self, BadMoment, pair.kept.shape_at, moment), moment)

    def test_memories_are_right(self):
        for number, program in enumerate(programs(4, 40)):
            for spare in SPARES:
                pair = Pair(self, program, spare, number)
                for _ in range(12):
                    pair.call()
                kept, memory = pair.kept, pair.kept.memory()
                self.assertTrue(is_memory(program, kept.calls, memory))
                self.assertIsNone(wrong_place(program, kept.calls, memory))
                self.assertEqual(wrong_places(program, pair.states, memory), set())
                self.assertTrue(has_form(program, memory))
                self.assertTrue(kept_of(program, spare, kept.calls) == kept)
                self.assertEqual(kept_of(program, spare, kept.calls).memory(), memory)
                for moment in kept.wanted:
                    doors, rows = pair.states[moment]
                    self.assertEqual(plain_of(program, memory, moment), (doors, tuple(enumerate(rows))))
                    self.assertEqual(map_at(program, memory, moment),
                                     tuple((record, kept.copy_at(moment, record)) for record in range(len(rows))))
                spans = stretches(program, memory)
                self.assertEqual([span[:2] for span in spans], [copy[:2] for copy in memory[1]])


class ChargesTest(unittest.TestCase):

    def test_papers(self):
        several = 0
        # Of these, most never link to a record by many fields.
        found = [ROW, CHAIN, CHAIN, tower(1, 4), tower(2, 3), ROW] * 5 + programs(8, 10)
        for number, program in enumerate(found):
            for spare in SPARES:
                pair = Pair(self, program, spare, number)
                for _ in range(30):
                    pair.call()
                if bound(pair.kept) is None:
                    self.assertIsNone(raised(self, NoCharge, charges, pair.kept))
                    self.assertIsNone(raised(self, NoCharge, shows_charges, pair.kept, ()))
                    continue
                moments = [write[0] for write in writes(program, pair.kept.calls)]
                least = 0 if spare is None else spare - most_linkers(pair.kept) + 1
                several += copied(pair.kept) > 2
                self.check_papers(pair, moments, least)
        self.assertGreater(several, 30)

    def check_papers(self, pair, moments, least):
        kept = pair.kept
        paper = charges(kept)
        self.assertEqual(len(paper), copied(kept))
        self.assertTrue(is_paper(kept.memory(), moments, least, paper))
        self.assertTrue(shows_charges(kept, paper))
        for _ in range(12):
            bent = Bender(pair.program, pair.random.random()).bent(paper)
            self.assertIs(shows_charges(kept, bent), is_paper(kept.memory(), moments, least, bent), bent)
            # The same writes, handed out from the last one on.
            numbers = list(range(len(moments)))[::-1]
            pair.random.shuffle(numbers)
            bent = tuple((copy, tuple(sorted(numbers[at * least:at * least + least])))
                         for at, (copy, _) in enumerate(paper))
            self.assertIs(shows_charges(kept, bent), is_paper(kept.memory(), moments, least, bent), bent)

    def test_prices(self):
        for number, program in enumerate(programs(9, 20)):
            pair = Pair(self, program, None, number)
            for _ in range(15):
                pair.call()
            calls = pair.kept.calls
            for copy_price, line_price in ((1, 1), (3, 2), (0, 5), (7, 0), (0, 0), (1000, 1)):
                prices = []
                for spare in (0, 1, 2, 3, 4, 5, 6, 7, 8, None):
                    copies, lines = space(kept_of(program, spare, calls))
                    prices.append((copies * copy_price + lines * line_price, spare))
                    self.assertEqual(price(program, calls, spare, copy_price, line_price), prices[-1][0])
                least = min(found for found, _ in prices)
                self.assertEqual(cheapest(program, calls, copy_price, line_price),
                                 [(spare, found) for found, spare in prices if found == least][0])


class Bender:
    """Makes values that are MEMORIES, but for a place or a few."""

    def __init__(self, program, seed):
        self.program, self.random = program, random.Random(seed)

    def bent(self, value):
        """The value with one of its parts another one."""
        if isinstance(value, tuple) and value and self.random.random() < 0.9:
            at = self.random.randrange(len(value))
            deed = self.random.random()
            if deed < 0.06:
                return value[:at] + value[at + 1:]
            if deed < 0.1:
                return value[:at] + (value[at],) + value[at:]
            return value[:at] + (self.bent(value[at]),) + value[at + 1:]
        if isinstance(value, int):
            return value + self.random.choice((-2, -1, -1, 1, 1, 2))
        return self.random.choice((0, 1, 5, ('copy', 0), ('copy', 1), ('copy', 2)) + self.program.fields)


class JudgeTest(unittest.TestCase):

    def check_claim(self, program, kept, states, claim):
        self.assertIs(is_form(program, claim), has_form(program, claim), claim)
        place = wrong_place(program, kept.calls, claim)
        wrong = wrong_places(program, states, claim) if has_form(program, claim) else {-1}
        self.assertIn(place, wrong or {None}, claim)
        self.assertIs(is_memory(program, kept.calls, claim), not wrong, claim)
        places = {None, -1}
        if wrong != {-1}:
            places |= {('record', record) for record in range(-1, kept.records + 2)}
            places |= {('door', door, moment) for door in program.doors for moment in range(-1, kept.moment + 2)}
            places |= {('copy', copy, field, moment) for copy in range(-1, kept.copies + 1)
                       for field in program.fields[:2] for moment in range(-1, kept.moment + 2)}
        for value in places | wrong:
            shown = value in wrong if wrong else value is None
            self.assertIs(shows_wrong_place(program, kept.calls, claim, value), shown, (claim, value))

    def test_claims_that_are_bent(self):
        for number, program in enumerate(programs(5, 10)):
            for spare in (0, 1, None):
                pair = Pair(self, program, spare, number)
                for _ in range(7):
                    pair.call()
                bender = Bender(program, number)
                for _ in range(15):
                    claim = bender.bent(pair.kept.memory())
                    if bender.random.random() < 0.3:
                        claim = bender.bent(claim)
                    self.check_claim(program, pair.kept, pair.states, claim)

    def test_what_is_left_has_the_form_and_can_be_judged(self):
        for number, program in enumerate(programs(6, 20)):
            pair = Pair(self, program, 1, number)
            for _ in range(10):
                pair.call()
            pair.let_go()
            pair.call()
            self.check_claim(program, pair.kept, pair.states, pair.kept.memory())


class ShapesTest(unittest.TestCase):

    def test_shapes_of_stores(self):
        for number, program in enumerate(programs(7, 40)):
            pair = Pair(self, program, None, number)
            for _ in range(9):
                pair.call()
            shapes = []
            for moment in pair.kept.wanted:
                store = pair.kept.store_at(moment)
                doors, rows = pair.states[moment]
                self.assertEqual(shape(store), shape_of(program, doors, rows))
                self.assertTrue(is_shape(program, shape(store)))
                values = [value for row in rows for value in row]
                self.assertEqual(linkers(store), tuple(values.count(('record', k)) for k in range(store.records)))
                found = {store.read(way) for way in ways(program, 6)} - {None}
                found = {value[1] for value in found if isinstance(value, tuple)}
                self.assertLessEqual(found, set(come_to(store)))
                self.assertEqual(len(come_to(store)), len(shape(store)[1]))
                self.assertEqual(come_to(store), tuple(sorted(come_to(store))))
                shapes.append(shape(store))
            self.check_ways(program, shapes[-1])
            self.check_partings(program, shapes[-3:])

    def check_ways(self, program, one):
        for number in range(len(one[1])):
            way = way_to(program, one, number)
            self.assertEqual(shape_read(program, one, way), ('record', number))
            for other in ways(program, min(len(way) - 1, 5)):
                if read(one, program, other) == ('record', number):
                    self.assertEqual(other, way)
                    break
        for way in ways(program, 3):
            self.assertEqual(shape_read(program, one, way), read(one, program, way))

    def check_partings(self, program, shapes):
        short = list(ways(program, 2))
        for one in shapes:
            for other in shapes:
                found = parting(program, one, other)
                self.assertIs(found is None, one == other)
                self.assertTrue(shows_parting(program, one, other, found))
                self.assertIs(shows_parting(program, one, other, None), one == other)
                for way in short:
                    told = read(one, program, way), read(other, program, way)
                    kinds = {type(value) for value in told}
                    self.assertIs(shows_parting(program, one, other, ('read', way)),
                                  len(kinds) == 2 or kinds == {int} and told[0] != told[1])
                for way in short[::3]:
                    for next_way in short:
                        told = [read(held, program, walked) for held in (one, other) for walked in (way, next_way)]
                        shown = (all(isinstance(value, tuple) for value in told)
                                 and (told[0] == told[1]) is not (told[2] == told[3]))
                        self.assertIs(shows_parting(program, one, other, ('one', way, next_way)), shown)


if __name__ == '__main__':
    unittest.main()
