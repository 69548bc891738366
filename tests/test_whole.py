"""Point 3: all parts of the program tell the same of the same calls, and names change nothing but names."""

import random
import unittest

from everymoment.asking import alike_moments, changes, door_history, history, since, until, when
from everymoment.benches import Bench
from everymoment.branches import Tree
from everymoment.charges import (
    bound, charges, cheapest, copied, led, most_linkers, price, shows_charges, space, used_lines, written)
from everymoment.desk import Desk
from everymoment.errors import Fault
from everymoment.journals import journal, read_journal
from everymoment.keeping import Kept, kept_of
from everymoment.leaving import left, needed, needed_copies, shows_witness, witness
from everymoment.memories import is_form, is_memory, map_at, memory_read, plain_of, stretches, wrong_place
from everymoment.shapes import come_to, is_shape, linkers, parting, shape, shape_read, shows_parting, way_to
from everymoment.stores import Store, ran, writes
from everymoment.texts import Program
from everymoment.towers import tower
from maker import programs
from remembering import ways
from samples import CHAIN, PILE, ROW, STACK, WEB, raised

SPARES = (0, 1, 2, 8, None)
SET_WORDS = set('fields doors part new get set put add less same kind tell call if else end while'.split())


def calls_for(program, seed, many):
    """CALLS of a program, and for each the call that it faults at ahead of it, if one was met."""
    chance = random.Random(seed)
    store = Store(program)
    for turn in range(many):
        name, takes = chance.choice(program.parts[:1] if turn < 3 else program.parts)
        try:
            store.call(name, tuple(chance.randint(-2, 4) for _ in range(takes)))
        except Fault:
            pass
    return store.calls


def samples():
    """(program, CALLS)."""
    found = [WEB, STACK, PILE, ROW, CHAIN, tower(2, 2)] + programs(13, 20)
    return [(program, calls_for(program, at, 14)) for at, program in enumerate(found)]


class SameTest(unittest.TestCase):

    def test_all_tell_the_same(self):
        for program, calls in samples():
            stores = [ran(program, calls[:moment]) for moment in range(len(calls) + 1)]
            told = self.check_store(program, calls, stores[-1])
            tree = self.check_tree(program, calls, stores, told)
            for spare in SPARES:
                kept = self.check_kept(program, calls, stores, told, spare)
                self.check_asking(kept, tree, stores)
                self.check_memory(kept, stores)
                self.check_charges(kept)
                self.check_bench(kept, told, spare)
                self.check_letting_go(kept, stores)

    def check_store(self, program, calls, last):
        store = Store(program)
        told = [store.call(*call) for call in calls]
        self.assertTrue(store == last)
        self.assertEqual([store.moment, len(store), store.calls], [len(calls), len(calls), calls])
        return told

    def check_tree(self, program, calls, stores, told):
        """A tree of one branch numbers records as a Store does."""
        tree = Tree(program)
        for moment, call in enumerate(calls):
            self.assertEqual(tree.call(moment, *call), (moment + 1, told[moment]))
        self.assertEqual([tree.order, tree.records], [tuple(range(len(calls) + 1)), stores[-1].records])
        for moment, store in enumerate(stores):
            self.assertEqual([tree.calls_of(moment), tree.records_of(moment), tree.path(moment)],
                             [calls[:moment], tuple(range(store.records)), tuple(range(moment + 1))])
            self.check_moment(tree, moment, store)
        return tree

    def check_moment(self, told, moment, store, asked=None):
        """What a Kept, or a Tree, tells of a moment, beside a Store."""
        program = store.program
        self.assertEqual(told.shape_at(moment), shape(store))
        for door in program.doors:
            self.assertEqual(told.door_at(moment, door), store.door(door))
        for record in range(store.records) if asked is None else asked:
            for field in program.fields:
                self.assertEqual(told.field_at(moment, record, field), store.field(record, field))
        for way in ways(program, 2):
            self.assertEqual(told.read_at(moment, way), store.read(way))

    def check_kept(self, program, calls, stores, told, spare):
        kept = Kept(program, spare)
        self.assertEqual([kept.call(*call) for call in calls], told)
        self.assertTrue(kept == kept_of(program, spare, calls))
        self.assertEqual([kept.moment, kept.records, kept.calls, kept.wanted],
                         [len(calls), stores[-1].records, calls, tuple(range(len(calls) + 1))])
        for moment, store in enumerate(stores):
            self.check_moment(kept, moment, store)
            self.assertTrue(kept.store_at(moment) == store)
        return kept

    def check_asking(self, kept, tree, stores):
        program = kept.program
        for door in program.doors:
            self.assertEqual(door_history(kept, door), tree.door_lines(door))
        for record in range(kept.records):
            for field in program.fields:
                pairs = history(kept, record, field)
                self.assertEqual(pairs, tree.lines(record, field))
                ends = [moment - 1 for moment, _ in pairs[1:]] + [kept.moment]
                for (moment, value), end in zip(pairs, ends):
                    self.assertEqual([since(kept, end, record, field), until(kept, moment, record, field)],
                                     [moment, end])
                    self.assertEqual(kept.field_at(end, record, field), value)
        for moment in kept.wanted:
            self.assertEqual(changes(kept, moment, kept.moment // 2), tree.changes(moment, kept.moment // 2))
        for way in ways(program, 1):
            for first, last in when(kept, way, None):
                self.assertEqual({stores[moment].read(way) for moment in range(first, last + 1)}, {None})
        for group in alike_moments(kept):
            self.assertEqual(len({shape(stores[moment]) for moment in group}), 1)
            self.assertIsNone(parting(program, kept.shape_at(group[0]), tree.shape_at(group[-1])))

    def check_memory(self, kept, stores):
        program, memory = kept.program, kept.memory()
        self.assertTrue(is_memory(program, kept.calls, memory))
        self.assertIsNone(wrong_place(program, kept.calls, memory))
        self.assertEqual(len(stretches(program, memory)), kept.copies)
        for moment, store in enumerate(stores):
            for way in ways(program, 1):
                self.assertEqual(memory_read(program, memory, moment, way), store.read(way))
            doors, rows = plain_of(program, memory, moment)
            self.assertEqual(doors, tuple(store.door(door) for door in program.doors))
            self.assertEqual(rows, tuple((record, tuple(store.field(record, field) for field in program.fields))
                                         for record in range(store.records)))
            self.assertEqual(map_at(program, memory, moment),
                             tuple((record, kept.copy_at(moment, record)) for record in range(store.records)))

    def check_charges(self, kept):
        self.assertEqual(written(kept), len(writes(kept.program, kept.calls)))
        self.assertEqual(copied(kept), kept.copies - kept.records)
        self.assertEqual(space(kept)[0], kept.copies)
        self.assertEqual(price(kept.program, kept.calls, kept.spare, 3, 2), space(kept)[0] * 3 + space(kept)[1] * 2)
        self.assertGreaterEqual(price(kept.program, kept.calls, kept.spare, 3, 2),
                                cheapest(kept.program, kept.calls, 3, 2)[1])
        self.assertLessEqual(max(linkers(kept.store_at(kept.moment)), default=0), most_linkers(kept))
        if bound(kept) is not None:
            self.assertLessEqual(copied(kept), bound(kept))
            self.assertTrue(shows_charges(kept, charges(kept)))

    def check_bench(self, kept, told, spare):
        text = kept.program.text
        desk = Desk('\n'.join((text, 'spare 8', 'deeds', 'respare ' + ('-' if spare is None else str(spare)))))
        bench = Bench(text, spare)
        for call, values in zip(kept.calls, told):
            self.assertEqual(bench.call(*call), values)
            line = ' '.join(['call', call[0]] + [str(number) for number in call[1]])
            self.assertEqual(desk.say(line), ' ; '.join(self.text(value) for value in values) or 'none')
        self.assertTrue(bench.kept_now() == kept and desk.bench.kept_now() == kept)
        self.assertFalse(bench == desk.bench)
        self.assertTrue(read_journal(journal(bench)) == bench)
        self.assertEqual(desk.say('copies'), '{} {}'.format(*space(kept)))
        for moment in kept.wanted:
            self.assertIn(moment, bench)
            for way in ways(kept.program, 1):
                self.assertEqual(desk.say('at {} {}'.format(moment, ' '.join(way))),
                                 self.text(kept.read_at(moment, way)))
            doors, rows = kept.shape_at(moment)
            self.assertEqual(desk.say('shape {}'.format(moment)), ' ; '.join(
                ', '.join(self.text(value) for value in row) for row in (doors,) + rows))
            self.assertEqual(desk.say('needed {}'.format(moment)),
                             ' '.join(map(str, needed_copies(kept, (moment,)))) or 'none')
        for record in range(kept.records):
            self.assertEqual(desk.say('history {} {}'.format(record, kept.program.fields[0])), ' ; '.join(
                '{} {}'.format(moment, self.text(value))
                for moment, value in history(kept, record, kept.program.fields[0])))
        wanted = kept.wanted[::3]
        bench.let_go(wanted)
        self.assertEqual(desk.say(' '.join(['let_go'] + [str(moment) for moment in wanted])), 'done')
        other = kept.copy()
        other.let_go(wanted)
        self.assertTrue(bench.kept_now() == other and desk.bench.kept_now() == other)
        self.assertEqual([bench.wanted, desk.bench.wanted], [other.wanted, other.wanted])
        bench.undo()
        self.assertEqual(bench.kept_now().memory(), kept.memory())

    @staticmethod
    def text(value):
        return '-' if value is None else 'record {}'.format(value[1]) if isinstance(value, tuple) else str(value)

    def check_letting_go(self, kept, stores):
        """Behind it, the moments that are wanted read as they did, and go on to, whatever is called."""
        program, other = kept.program, kept.copy()
        wanted = kept.wanted[1::4]
        needs = needed(kept, tuple(sorted(set(wanted) | {kept.moment})))
        self.assertEqual(left(kept, wanted), (len({copy for copy, _ in needs[1] + needs[2]}), len(needs[2])))
        for copy in needed_copies(kept, wanted):
            self.assertTrue(shows_witness(kept, wanted, copy, witness(kept, wanted, copy)))
        other.let_go(wanted)
        self.assertEqual([written(other), copied(other), led(other), most_linkers(other)],
                         [written(kept), copied(kept), led(kept), most_linkers(kept)])
        for call in kept.calls[:3]:
            try:
                other.call(*call)
            except Fault:
                self.assertTrue(other.store_at(other.moment) == ran(program, other.calls))
        self.assertEqual(other.wanted[:len(wanted)], wanted)
        for moment in other.wanted[:other.wanted.index(kept.moment) + 1]:
            asked = [record for record in range(kept.records) if record in come_to(stores[moment])]
            self.check_moment(other, moment, stores[moment], asked)
        self.assertTrue(is_form(program, other.memory()))
        self.assertEqual(alike_moments(other)[0][0], other.wanted[0])

    def test_faults_are_the_same_everywhere(self):
        faults = 0
        for program, calls in samples():
            store = ran(program, calls)
            keeps = [kept_of(program, spare, calls) for spare in SPARES]
            tree, bench, desk = Tree(program), Bench(program.text, 1), Desk(program.text + '\nspare 0\ndeeds')
            for moment, call in enumerate(calls):
                tree.call(moment, *call), bench.call(*call), desk.bench.call(*call)
            for name, many in program.parts:
                numbers = (3,) * many
                try:
                    store.copy().call(name, numbers)
                except Fault as error:
                    faults += 1
                    for told in keeps + [bench, desk.bench]:
                        self.assertEqual(raised(self, Fault, told.call, name, numbers), error.value)
                    self.assertEqual(raised(self, Fault, tree.call, len(calls), name, numbers), error.value)
                    line = ' '.join(['call', name] + ['3'] * many)
                    self.assertEqual(raised(self, Fault, desk.say, line), error.value)
            self.assertEqual([tree.moments, bench.moment, desk.bench.deeds], [len(calls) + 1, len(calls), len(calls)])
        self.assertGreater(faults, 3)


def named_otherwise(program):
    """(text of the same program with other names, names in it by those names but locals)."""
    names, told, part = {}, {}, ''
    rows = []
    for line in program.text.split('\n'):
        words = line.split(' ')
        if words[0] == 'part':
            part = words[1]
        row = []
        for at, word in enumerate(words):
            is_fixed = word in SET_WORDS or not word[0].isalpha()
            is_cell = word in program.fields + program.doors + tuple(name for name, _ in program.parts)
            # Locals are called otherwise in each part.
            key = word if is_cell else (part, word)
            if not is_fixed:
                names.setdefault(key, 'q{}z'.format(len(names)))
                if is_cell:
                    told[names[key]] = word
            row.append(word if is_fixed else names[key])
        rows.append(' '.join(row))
    return '\n'.join(rows), told


def translated(value, names):
    """A value with these names instead of others, wherever they stand."""
    if isinstance(value, (tuple, list)):
        return type(value)(translated(part, names) for part in value)
    if isinstance(value, str) and value not in names:
        return ' '.join(names.get(word, word) for word in value.split(' '))
    return names.get(value, value) if isinstance(value, str) else value


def all_told(program, calls):
    """What is told of these calls, by functions of all parts."""
    kept = kept_of(program, 1, calls)
    found = [program.fields, program.doors, program.parts, kept.memory(), writes(program, calls)]
    moments = kept.wanted
    found += [written(kept), copied(kept), led(kept), most_linkers(kept), bound(kept), space(kept), used_lines(kept)]
    shapes = [kept.shape_at(moment) for moment in moments]
    found += [shapes, [parting(program, one, other) for one in shapes for other in shapes],
              [[way_to(program, one, number) for number in range(len(one[1]))] for one in shapes]]
    found += [[[kept.read_at(moment, way) for way in ways(program, 2)] for moment in moments], alike_moments(kept)]
    found += [[history(kept, record, field) for record in range(kept.records) for field in program.fields],
              [door_history(kept, door) for door in program.doors], [changes(kept, moment, 0) for moment in moments],
              [when(kept, way, 0) for way in ways(program, 1)], needed(kept, moments[::2]), left(kept, moments[::3])]
    found += [[witness(kept, moments, copy) for copy in needed_copies(kept, moments)]]
    bent = (kept.memory()[0], kept.memory()[1][:-1])
    found += [wrong_place(program, calls, bent) if is_form(program, bent) else None, cheapest(program, calls, 5, 2)]
    tree = Tree(program)
    chance = random.Random(5)
    for call in calls:
        try:
            found.append(tree.call(chance.randrange(tree.moments), *call))
        except Fault as error:
            found.append(error.value)
    found += [tree.order, tree.lines_many, [tree.door_lines(door) for door in program.doors],
              [tree.lines(record, field) for record in range(tree.records) for field in program.fields],
              [tree.changes(0, moment) for moment in range(tree.moments)],
              [tree.calls_of(moment) for moment in range(tree.moments)]]
    bench = Bench(program.text, 1)
    for call in calls:
        bench.call(*call)
    bench.let_go(moments[::4])
    return found + [bench.kept_now().memory(), journal(bench).split('\n')[program.text.count('\n') + 1:]]


class NamesTest(unittest.TestCase):

    def test_names_change_nothing_but_names(self):
        for program, calls in samples():
            text, names = named_otherwise(program)
            other = Program(text)
            self.assertFalse(other == program)
            back = {name: word for word, name in names.items()}
            self.assertEqual(translated(all_told(other, translated(calls, back)), names), all_told(program, calls))


class ShapesTest(unittest.TestCase):

    def test_stores_have_one_shape_just_if_no_ways_part_them(self):
        for program, calls in samples()[:10]:
            stores = [ran(program, calls[:moment]) for moment in range(len(calls) + 1)]
            for one in stores:
                for other in stores[::3]:
                    found = parting(program, shape(one), shape(other))
                    self.assertTrue(shows_parting(program, shape(one), shape(other), found))
                    self.assertIs(found is None, shape(one) == shape(other))
                    if found is not None:
                        told = [[store.read(way) for way in found[1:]] for store in (one, other)]
                        if found[0] == 'one':
                            self.assertTrue((told[0][0] == told[0][1]) is not (told[1][0] == told[1][1]))
                        else:
                            self.assertNotEqual(told[0], told[1])
                self.assertTrue(is_shape(program, shape(one)))
                for way in ways(program, 2):
                    self.assertEqual(shape_read(program, shape(one), way) is None, one.read(way) is None)


if __name__ == '__main__':
    unittest.main()
