"""Point 13: trees of moments."""

import random
import unittest

from everymoment.branches import Tree
from everymoment.errors import BadMoment, BadNumbers, BadWay, Fault, NoDoor, NoField, NoPart, NoProgram, NoRecord
from everymoment.keeping import kept_of
from everymoment.shapes import shape
from everymoment.stores import Store, ran
from branching import Wood
from maker import programs
from reference import Broken
from remembering import ways
from samples import PILE, STACK, WEB, odd_values, program_of, raised

HEAP = program_of('fields key next', 'doors top', 'part push n', 'new r', 'set r key n', 'set r next top', 'put top r',
                  'part poke n', 'set top key n', 'tell top', 'part twins', 'new r', 'new top', 'set top next r',
                  'tell r', 'tell top', 'tell 5', 'part idle', 'part fail', 'new top', 'set 0 key 1')

R0, R1, R2, R3 = [('record', number) for number in range(4)]


def tree_of(*calls, program=HEAP):
    """A Tree with these calls, each (moment, name, numbers ..)."""
    tree = Tree(program)
    for moment, name, *numbers in calls:
        tree.call(moment, name, tuple(numbers))
    return tree


def grown():
    return tree_of((0, 'push', 5), (1, 'push', 7), (1, 'poke', 6), (3, 'push', 7))


def all_of(tree):
    """All that a Tree tells."""
    moments = range(tree.moments)
    return [tree.program, tree.moments, tree.records, tree.order, tree.lines_many,
            [(tree.parent(at), tree.path(at), tree.calls_of(at), tree.records_of(at), tree.shape_at(at))
             for at in moments],
            [tree.changes(one, other) for one in moments for other in moments],
            [tree.lines(record, field) for record in range(tree.records) for field in tree.program.fields],
            [tree.door_lines(door) for door in tree.program.doors]]


class CallsTest(unittest.TestCase):

    def test_a_tree_at_first(self):
        tree = Tree(program=HEAP)
        self.assertEqual([tree.moments, tree.records, tree.order, tree.lines_many, tree.program], [1, 0, (0,), 1, HEAP])
        self.assertEqual([tree.parent(0), tree.path(0), tree.calls_of(0), tree.records_of(0), tree.shape_at(0)],
                         [None, (0,), (), (), ((0,), ())])
        self.assertEqual([tree.door_at(0, 'top'), tree.door_lines('top')], [0, ((0, 0),)])
        self.assertEqual(Tree(WEB).lines_many, 2)

    def test_calls_upon_any_moment(self):
        tree = Tree(HEAP)
        told = [tree.call(0, 'push', (5,)), tree.call(1, 'push', (7,)), tree.call(moment=1, name='poke', numbers=(6,)),
                tree.call(3, 'push', (7,)), tree.call(0, 'twins', ()), tree.call(0, 'idle', ()),
                tree.call(4, 'poke', (1,)), tree.call(6, 'twins', ())]
        self.assertEqual(told, [(1, ()), (2, ()), (3, (R0,)), (4, ()), (5, (R3, ('record', 4), 5)), (6, ()), (7, (R2,)),
                                (8, (('record', 5), ('record', 6), 5))])
        self.assertEqual([tree.moments, tree.records], [9, 7])
        self.assertEqual([tree.parent(at) for at in range(9)], [None, 0, 1, 1, 3, 0, 0, 4, 6])
        self.assertEqual([tree.records_of(at) for at in range(9)],
                         [(), (0,), (0, 1), (0,), (0, 2), (3, 4), (), (0, 2), (5, 6)])
        self.assertEqual([tree.path(7), tree.path(8), tree.calls_of(8)],
                         [(0, 1, 3, 4, 7), (0, 6, 8), (('idle', ()), ('twins', ()))])
        pairs = ((7, 2), (2, 7), (8, 5), (4, 7), (7, 7))
        self.assertEqual([tree.common(*pair) for pair in pairs], [1, 1, 0, 4, 7])

    def test_an_elder_moment_reads_as_it_did(self):
        tree = grown()
        elder = [[tree.read_at(at, way) for way in ways(HEAP, 3)] for at in range(5)]
        for moment in range(5):
            for name, numbers in (('push', (9,)), ('poke', (8,)), ('twins', ()), ('idle', ())):
                if moment or name != 'poke':
                    tree.call(moment, name, numbers)
        self.assertEqual([[tree.read_at(at, way) for way in ways(HEAP, 3)] for at in range(5)], elder)

    def test_a_call_that_faults_or_is_refused_does_nothing(self):
        tree = grown()
        elder = all_of(tree)
        self.assertEqual(raised(self, Fault, tree.call, 1, 'fail', ()), 21)
        self.assertEqual(raised(self, Fault, tree.call, 0, 'poke', (5,)), 9)
        for value in odd_values() + [5, 0.0, '0', (0,)]:
            if type(value) is not int or value not in range(5):
                self.assertIs(raised(self, BadMoment, tree.call, value, None, None), value)
        for value in odd_values() + ['top', 'key', 'Push', 'r']:
            self.assertIs(raised(self, NoPart, tree.call, 0, value, None), value)
        for value in odd_values() + [(1, 2), (10000,), ('1',), (True,), [1]]:
            if value != (0,):
                self.assertIs(raised(self, BadNumbers, tree.call, 0, 'push', value), value)
        self.assertEqual(all_of(tree), elder)
        self.assertEqual(tree.call(0, 'twins', ()), (5, (R3, ('record', 4), 5)))

    def test_no_program(self):
        for value in odd_values():
            if value not in (STACK, PILE):
                self.assertIs(raised(self, NoProgram, Tree, value), value)

    def test_records_of_other_branches_do_not_count_as_made(self):
        # On each path 200 records can be made, however many others have.
        tree = Tree(program_of('fields f', 'doors d', 'part m', 'new d'))
        for _ in range(3):
            moment = 0
            for _ in range(200):
                moment = tree.call(moment, 'm', ())[0]
            self.assertEqual(raised(self, Fault, tree.call, moment, 'm', ()), 4)
        self.assertEqual([tree.moments, tree.records, tree.records_of(600)[0]], [601, 600, 400])


class ReadsTest(unittest.TestCase):

    def test_reads(self):
        tree = grown()
        self.assertEqual([tree.read_at(at, ('top', 'next', 'key')) for at in range(5)], [None, None, 5, None, 6])
        self.assertEqual([tree.door_at(at, 'top') for at in range(5)], [0, R0, R1, R0, R2])
        self.assertEqual([tree.read_at(4, way) for way in (('top',), ('top', 'next'), ('top', 'next', 'next'))],
                         [R2, R0, 0])
        self.assertEqual([tree.field_at(2, 0, 'key'), tree.field_at(3, 0, 'key'), tree.field_at(4, 2, 'next')],
                         [5, 6, R0])
        self.assertEqual(tree.field_at(moment=2, record=1, field='next'), R0)
        self.assertEqual([tree.door_at(moment=4, door='top'), tree.read_at(moment=4, way=('top', 'key'))], [R2, 7])
        self.assertEqual(tree.shape_at(moment=4), ((R0,), ((7, R1), (6, 0))))
        self.assertEqual([tree.parent(moment=4), tree.path(moment=1), tree.records_of(moment=4),
                          tree.calls_of(moment=1), tree.common(one=2, other=4)],
                         [3, (0, 1), (0, 2), (('push', (5,)),), 1])

    def test_errors(self):
        tree = grown()
        calls = [(method, more) for method, more in (
            (tree.parent, ()), (tree.path, ()), (tree.calls_of, ()), (tree.records_of, ()), (tree.shape_at, ()),
            (tree.door_at, (None,)), (tree.field_at, (None, None)), (tree.read_at, (None,)), (tree.common, (99,)),
            (tree.changes, (99,)))]
        for value in odd_values() + [5, '1', (1,), 1.0]:
            if type(value) is not int or value not in range(5):
                for method, more in calls:
                    self.assertIs(raised(self, BadMoment, method, value, *more), value)
                self.assertIs(raised(self, BadMoment, tree.common, 4, value), value)
                self.assertIs(raised(self, BadMoment, tree.changes, 0, value), value)
        for value in odd_values() + ['key', 'Top', ('top',)]:
            self.assertIs(raised(self, NoDoor, tree.door_at, 0, value), value)
            self.assertIs(raised(self, NoDoor, tree.door_lines, value), value)
        for value in odd_values() + ['0', (0,), R0, 3]:
            if type(value) is not int or value not in (0, 2):
                self.assertIs(raised(self, NoRecord, tree.field_at, 4, value, None), value)
            if type(value) is not int or value not in range(3):
                self.assertIs(raised(self, NoRecord, tree.lines, value, None), value)
        self.assertEqual(raised(self, NoRecord, tree.field_at, 4, 1, 'key'), 1)
        self.assertEqual(raised(self, NoRecord, tree.field_at, 0, 0, 'key'), 0)
        for value in odd_values() + ['top', 'Key', ('key',)]:
            self.assertIs(raised(self, NoField, tree.field_at, 4, 0, value), value)
            self.assertIs(raised(self, NoField, tree.lines, 0, value), value)
        for value in odd_values() + [('key',), ('top', 'top'), ('top',) + ('next',) * 201, 'top', ['top']]:
            self.assertIs(raised(self, BadWay, tree.read_at, 4, value), value)
        self.assertIsNone(tree.read_at(4, ('top',) + ('next',) * 200))

    def test_changes(self):
        tree = grown()
        self.assertEqual(tree.changes(2, 4), (('door', 'top', R1, R2), ('field', 0, 'key', 5, 6), ('gone', 1),
                                              ('made', 2)))
        self.assertEqual(tree.changes(one=4, other=2), (('door', 'top', R2, R1), ('field', 0, 'key', 6, 5), ('made', 1),
                                                        ('gone', 2)))
        self.assertEqual([tree.changes(at, at) for at in range(5)], [()] * 5)
        self.assertEqual(tree.changes(0, 1), (('door', 'top', 0, R0), ('made', 0)))
        self.assertEqual(tree.changes(4, 0), (('door', 'top', R2, 0), ('gone', 0), ('gone', 2)))


class LinesTest(unittest.TestCase):

    def test_list(self):
        tree = grown()
        self.assertEqual(tree.order, (0, 1, 3, 4, 2))
        for moment, order in ((0, (0, 5, 1, 3, 4, 2)), (4, (0, 5, 1, 3, 4, 6, 2)), (1, (0, 5, 1, 7, 3, 4, 6, 2)),
                              (2, (0, 5, 1, 7, 3, 4, 6, 2, 8)), (5, (0, 5, 9, 1, 7, 3, 4, 6, 2, 8))):
            tree.call(moment, 'idle', ())
            self.assertEqual(tree.order, order)

    def test_lines(self):
        tree = grown()
        self.assertEqual(tree.lines(0, 'key'), ((1, 5), (3, 6), (2, 5)))
        self.assertEqual(tree.lines(record=1, field='next'), ((2, R0),))
        self.assertEqual(tree.lines(0, 'next'), ((1, 0),))
        self.assertEqual(tree.door_lines(door='top'), ((0, 0), (1, R0), (4, R2), (2, R1)))
        self.assertEqual(tree.lines_many, 12)
        tree.call(1, 'poke', (5,))
        self.assertEqual([tree.lines(0, 'key'), tree.lines_many], [((1, 5), (3, 6), (2, 5)), 12])
        tree.call(2, 'poke', (7,))
        tree.call(1, 'poke', (6,))
        self.assertEqual([tree.lines(0, 'key'), tree.lines_many], [((1, 5), (7, 6), (5, 5), (3, 6), (2, 5)), 14])
        self.assertEqual(tree.order, (0, 1, 7, 5, 3, 4, 2, 6))

    def test_a_moment_that_puts_back_what_stood(self):
        # At first 1 and 2 of one value; a moment between that puts another one, and one that puts it back, upon it.
        tree = tree_of((0, 'push', 5), (1, 'idle'), (1, 'poke', 6))
        self.assertEqual([tree.lines(0, 'key'), tree.lines_many], [((1, 5), (3, 6), (2, 5)), 6])
        tree.call(3, 'poke', (5,))
        self.assertEqual([tree.order, tree.lines(0, 'key'), tree.lines_many],
                         [(0, 1, 3, 4, 2), ((1, 5), (3, 6), (4, 5)), 6])
        # The line that moment 2 had is not needed any more; ahead of 4, it is.
        tree.call(3, 'poke', (7,))
        self.assertEqual([tree.order, tree.lines(0, 'key'), tree.lines_many],
                         [(0, 1, 3, 5, 4, 2), ((1, 5), (3, 6), (5, 7), (4, 5)), 7])

    def test_the_stretch_of_a_record_ends(self):
        # Record 0 was made at moment 1, record 1 at 2, and 3 comes ahead of both: nothing of them is told there.
        tree = tree_of((0, 'push', 5), (0, 'push', 6), (0, 'twins'))
        self.assertEqual(tree.order, (0, 3, 2, 1))
        self.assertEqual([tree.lines(0, 'key'), tree.lines(1, 'key'), tree.lines(2, 'key'), tree.lines(3, 'next')],
                         [((1, 5),), ((2, 6),), ((3, 0),), ((3, R2),)])
        self.assertEqual([tree.door_lines('top'), tree.lines_many], [((0, 0), (3, R3), (2, R1), (1, R0)), 12])
        tree.call(2, 'poke', (9,))
        self.assertEqual([tree.order, tree.lines(1, 'key'), tree.lines_many],
                         [(0, 3, 2, 4, 1), ((2, 6), (4, 9)), 13])

    def test_several_doors(self):
        tree = tree_of((0, 'make', 1), (1, 'turn'), (1, 'turn'), (2, 'turn'), program=WEB)
        self.assertEqual(tree.order, (0, 1, 3, 2, 4))
        self.assertEqual(tree.door_lines('here'), ((0, 0), (1, R0), (3, 0), (4, R0)))
        self.assertEqual(tree.door_lines('there'), ((0, 0), (3, R0), (4, 0)))
        self.assertEqual(tree.lines_many, 4 + 3 + 3)


class EqualityTest(unittest.TestCase):

    def test_copies(self):
        tree = grown()
        other = tree.copy()
        self.assertIs(type(other), Tree)
        self.assertTrue(other == tree)
        self.assertEqual(all_of(other), all_of(tree))
        elder = all_of(tree)
        other.call(2, 'push', (1,))
        self.assertFalse(other == tree)
        self.assertEqual(all_of(tree), elder)
        tree.call(2, 'push', (1,))
        self.assertTrue(other == tree and not other != tree)
        self.assertEqual(all_of(other), all_of(tree))

    def test_equality(self):
        one = tree_of((0, 'idle'), (0, 'idle'))
        self.assertFalse(one == tree_of((0, 'idle'), (1, 'idle')))
        self.assertFalse(one == tree_of((0, 'idle')))
        self.assertFalse(one == tree_of((0, 'idle'), (0, 'twins')))
        self.assertFalse(tree_of((0, 'push', 1), (0, 'push', 2)) == tree_of((0, 'push', 2), (0, 'push', 1)))
        self.assertTrue(one == tree_of((0, 'idle'), (0, 'idle')))
        other = Tree(program_of(*HEAP.text.replace('push', 'pushed').split('\n')))
        self.assertFalse(Tree(HEAP) == other)
        for value in odd_values() + [Store(HEAP), kept_of(HEAP, 1, ()), HEAP]:
            self.assertFalse(Tree(HEAP) == value)
            self.assertTrue(Tree(HEAP) != value)

    def test_what_was_told_stays(self):
        tree = grown()
        told = tree.order, tree.path(4), tree.lines(0, 'key'), tree.records_of(4), tree.door_lines('top')
        elder = list(told)
        tree.call(1, 'poke', (9,))
        self.assertEqual(list(told), elder)
        self.assertTrue(all(type(value) is tuple for value in told))


class ManyTest(unittest.TestCase):
    """Trees beside a second reading, and beside Stores that did the calls of a path."""

    def check(self, tree, wood, chance):
        program = tree.program
        self.assertEqual([tree.moments, tree.records, tree.order], [len(wood.parents), wood.records,
                                                                    tuple(wood.stretch(0))])
        for moment in range(tree.moments):
            store = ran(program, tree.calls_of(moment))
            names = tree.records_of(moment)
            self.assertEqual([tree.path(moment), tree.parent(moment), names],
                             [tuple(wood.path(moment)), wood.parents[moment], tuple(wood.names[moment])])
            self.assertEqual(tree.calls_of(moment), tuple(wood.calls[at] for at in wood.path(moment)[1:]))
            self.assertEqual([tree.door_at(moment, door) for door in program.doors], wood.states[moment][0])
            self.assertEqual({record: [tree.field_at(moment, record, name) for name in program.fields]
                              for record in names}, wood.states[moment][1])
            for way in ways(program, 2):
                self.assertEqual(tree.read_at(moment, way), wood.value(store.read(way), names))
            self.assertEqual(tree.shape_at(moment), shape(store))
            for record in set(range(tree.records + 1)) - set(names):
                self.assertEqual(raised(self, NoRecord, tree.field_at, moment, record, 'x'), record)
        for record in range(tree.records):
            for field in program.fields:
                self.assertEqual(tree.lines(record, field), wood.record_lines(record, field))
        for door in program.doors:
            self.assertEqual(tree.door_lines(door), wood.door_lines(door))
        self.assertEqual(tree.lines_many, wood.all_lines())
        for _ in range(8):
            one, other = chance.randrange(tree.moments), chance.randrange(tree.moments)
            self.assertEqual(tree.changes(one, other), wood.changes(one, other))
            self.assertEqual(tree.common(one, other), max(set(wood.path(one)) & set(wood.path(other))))

    def test_many(self):
        for number, program in enumerate(programs(11, 40)):
            chance = random.Random(number)
            tree, wood = Tree(program), Wood(program)
            for turn in range(24):
                # Most calls go on from the newest moments, as else little stands at any.
                moment = max(0, tree.moments - 1 - int(chance.expovariate(0.5)))
                name, many = chance.choice(program.parts[:1] if turn < 3 else program.parts)
                numbers = tuple(chance.randint(-2, 4) for _ in range(many))
                elder = tree.lines_many
                try:
                    told = wood.call(moment, name, numbers)
                except Broken as error:
                    self.assertEqual(raised(self, Fault, tree.call, moment, name, numbers), error.args[0])
                    self.assertEqual(tree.lines_many, elder)
                    continue
                self.assertEqual(tree.call(moment, name, numbers), (len(wood.parents) - 1, told))
                self.assertEqual(tree.lines_many, wood.all_lines())
                self.check_lines_brought(tree, wood, elder)
            self.check(tree, wood, chance)
            self.assertTrue(tree.copy() == tree)

    def check_lines_brought(self, tree, wood, elder):
        """At most two lines for each cell that became another VALUE, and one for each field of a record made."""
        moment = tree.moments - 1
        rows = wood.changes(wood.parents[moment], moment)
        cells = sum(row[0] in ('door', 'field') for row in rows)
        made = sum(row[0] == 'made' for row in rows) * len(tree.program.fields)
        self.assertLessEqual(tree.lines_many - elder, 2 * cells + made)


if __name__ == '__main__':
    unittest.main()
