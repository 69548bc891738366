r"""The examples of points 4 to 14, and those of README.md.

>>> from everymoment.texts import Program
>>> rows = ['fields key after', 'doors head', 'part push k', 'new r', 'set r key k', 'set r after head', 'put head r']
>>> rows = rows + ['part bump k', 'put at head', 'kind more at', 'while more', 'get old at key', 'add old old k', 'set at key old']
>>> stack = Program('\n'.join(rows + ['get at at after', 'kind more at', 'end', 'part top', 'kind any head', 'if any', 'get k head key', 'tell k', 'else', 'tell 0', 'end']))
>>> [stack.fields, stack.doors, stack.parts]
[('key', 'after'), ('head',), (('push', 1), ('bump', 1), ('top', 0))]
>>> [stack.part_at('bump'), stack.line(11), stack.line(17)]
[(8, 17), 'while more', 'end']
>>> def refused(text):
...     try:
...         Program(text)
...     except ValueError as error:
...         return error.value
>>> begun = 'fields f\ndoors d\npart p x\n'
>>> [refused(begun + row) for row in ('put x y', 'set x d 1', 'call p 1', 'if x', 'end', 'part d', 'put f 1', 'add x 1')]
[None, 4, 4, 5, 4, 4, 4, 4]
>>> [refused(text) for text in (None, '', 'fields f\ndoors d', 'fields f f', begun + 'while x\nelse', begun + 'if x\npart q')]
[0, 1, 3, 1, 5, 5]

>>> from everymoment.stores import ran, Store, writes
>>> from everymoment.texts import Program
>>> pile = Program('fields val next\ndoors top\npart push n\nnew r\nset r val n\nset r next top\nput top r\npart total\nput s 0\nput r top\nkind k r\nwhile k\nget v r val\nadd s s v\nget r r next\nkind k r\nend\ntell s\npart pop\nget v top val\nget top top next\ntell v')
>>> store = Store(pile)
>>> [store.call('push', (3,)), store.call('push', (5,)), store.call('total', ()), store.moment, store.records]
[(), (), (8,), 3, 2]
>>> [store.door('top'), store.field(1, 'next'), store.read(('top', 'next', 'val')), store.read(('top', 'next', 'next')), store.read(('top', 'next', 'next', 'val'))]
[('record', 1), ('record', 0), 3, 0, None]
>>> writes(pile, store.calls)
((1, 0, 'val', 3), (2, 1, 'val', 5), (2, 1, 'next', ('record', 0)))
>>> [store.call('pop', ()), store.call('pop', ()), store.door('top')]
[(5,), (3,), 0]
>>> from everymoment.errors import Fault
>>> try:
...     store.call('pop', ())
... except Fault as error:
...     print(error.value, store.moment)
20 5
>>> store.back(2)
>>> [store.door('top'), store == ran(pile, (('push', (3,)), ('push', (5,)), ('total', ()))), len(store)]
[('record', 1), True, 3]

>>> from everymoment.shapes import come_to, is_shape, linkers, parting, shape, shape_read, shows_parting, way_to
>>> from everymoment.stores import ran
>>> from everymoment.texts import Program
>>> rows = Program('fields key next\ndoors top last\npart push n\nnew r\nset r key n\nset r next top\nput top r\npart mark\nput last top\npart ring\nset last next top\npart lone n\nnew last\nset last key n')
>>> two = ran(rows, (('push', (5,)), ('mark', ()), ('push', (7,))))
>>> shape(two)
((('record', 0), ('record', 1)), ((7, ('record', 1)), (5, 0)))
>>> [come_to(two), linkers(two), way_to(rows, shape(two), 1), shape_read(rows, shape(two), ('top', 'next', 'key'))]
[(0, 1), (1, 0), ('last',), 5]
>>> round_shape = shape(ran(rows, two.calls + (('ring', ()),)))
>>> [round_shape[1], shape_read(rows, round_shape, ('top', 'next', 'next', 'key')), shape_read(rows, shape(two), ('top', 'next', 'next', 'key'))]
[((7, ('record', 1)), (5, ('record', 0))), 7, None]
>>> [shows_parting(rows, shape(two), round_shape, value) for value in (('read', ('last', 'next')), ('read', ('last', 'key')), None)]
[True, False, False]
>>> same, twins = [shape(ran(rows, (('push', (5,)), call))) for call in (('mark', ()), ('lone', (5,)))]
>>> [same, twins, parting(rows, same, same)]
[((('record', 0), ('record', 0)), ((5, 0),)), ((('record', 0), ('record', 1)), ((5, 0), (5, 0))), None]
>>> parting(rows, same, twins) in (('one', ('top',), ('last',)), ('one', ('last',), ('top',)))
True
>>> [is_shape(rows, value) for value in (twins, (twins[0][::-1], twins[1]), (twins[0], twins[1] + ((0, 0),)))]
[True, False, False]

>>> from everymoment.keeping import Kept, kept_of
>>> from everymoment.texts import Program
>>> heap = Program('fields key next\ndoors top\npart push n\nnew r\nset r key n\nset r next top\nput top r\npart poke n\nget r top next\nset r key n')
>>> kept = Kept(heap, 1)
>>> for number in (5, 6):
...     told = kept.call('push', (number,))
>>> kept.memory()
((((0, 0), (1, ('copy', 0)), (2, ('copy', 1))),), ((0, 1, (5, 0), ()), (1, 2, (6, ('copy', 0)), ())))
>>> for number in (7, 8):
...     told = kept.call('poke', (number,))
>>> kept.memory()[1]
((0, 1, (5, 0), ((3, 'key', 7),)), (1, 2, (6, ('copy', 0)), ((4, 'next', ('copy', 2)),)), (0, 4, (8, 0), ()))
>>> [kept.read_at(moment, ('top', 'next', 'key')) for moment in (1, 2, 3, 4)]
[None, 5, 7, 8]
>>> [kept.field_at(3, 0, 'key'), kept.copy_at(3, 0), kept.copy_at(4, 0), kept.read_at(4, ('top', 'next')), kept.copies, kept.records]
[7, 0, 2, ('record', 0), 3, 2]
>>> [kept_of(heap, spare, kept.calls).copies for spare in (0, 1, 2, None)]
[6, 3, 2, 2]

>>> from everymoment.keeping import kept_of
>>> from everymoment.memories import is_memory, map_at, memory_read, plain_of, shows_wrong_place, stretches, wrong_place
>>> from everymoment.texts import Program
>>> pile = Program('fields val link\ndoors top\npart push x\nnew r\nset r val x\nset r link top\nput top r\npart poke x\nset top val x')
>>> calls = (('push', (5,)), ('push', (7,)), ('poke', (9,)))
>>> memory = kept_of(pile, 0, calls).memory()
>>> memory[0]
(((0, 0), (1, ('copy', 0)), (2, ('copy', 1)), (3, ('copy', 2))),)
>>> memory[1]
((0, 1, (5, 0), ()), (1, 2, (7, ('copy', 0)), ()), (1, 3, (9, ('copy', 0)), ()))
>>> stretches(pile, memory), map_at(pile, memory, 2), map_at(pile, memory, 3)
(((0, 1, None), (1, 2, 2), (1, 3, None)), ((0, 0), (1, 1)), ((0, 0), (1, 2)))
>>> [memory_read(pile, memory, moment, ('top', 'val')) for moment in range(4)]
[None, 5, 7, 9]
>>> plain_of(pile, memory, 2)
((('record', 1),), ((0, (5, 0)), (1, (7, ('record', 0)))))
>>> spared = kept_of(pile, 2, calls).memory()
>>> [spared[1][1], is_memory(pile, calls, spared), is_memory(pile, calls, memory), is_memory(pile, calls[:2], memory)]
[(1, 2, (7, ('copy', 0)), ((3, 'val', 9),)), True, True, True]
>>> bent = (memory[0], memory[1][:2] + ((1, 3, (8, ('copy', 0)), ()),))
>>> wrong_place(pile, calls, bent), wrong_place(pile, calls, memory), wrong_place(pile, calls, memory[0])
(('copy', 2, 'val', 3), None, -1)
>>> [shows_wrong_place(pile, calls, bent, value) for value in (('copy', 2, 'val', 3), ('copy', 2, 'link', 3), ('record', 1))]
[True, False, False]

>>> from everymoment.keeping import kept_of
>>> from everymoment.leaving import left, needed, needed_copies, shows_witness, witness
>>> from everymoment.texts import Program
>>> rows = ['fields num link', 'doors top', 'part push n', 'new r', 'set r num n', 'set r link top', 'put top r']
>>> rows = rows + ['part raise', 'get v top num', 'add v v 1', 'set top num v', 'part drop', 'get r top link', 'put top r']
>>> heap = Program('\n'.join(rows))
>>> kept = kept_of(heap, 1, (('push', (5,)), ('push', (7,)), ('raise', ()), ('raise', ()), ('drop', ())))
>>> kept.memory()[0]
(((0, 0), (1, ('copy', 0)), (2, ('copy', 1)), (4, ('copy', 2)), (5, ('copy', 0))),)
>>> kept.memory()[1]
((0, 1, (5, 0), ()), (1, 2, (7, ('copy', 0)), ((3, 'num', 8),)), (1, 4, (9, ('copy', 0)), ()))
>>> needed(kept, (1, 3))
(((0, 1), (0, 2)), ((0, 0), (0, 1), (1, 1)), ((1, 0),))
>>> [needed_copies(kept, moments) for moments in ((0,), (1,), (4, 5))]
[(), (0,), (0, 2)]
>>> [witness(kept, (3,), 0), shows_witness(kept, (3, 5), 0, (5, ('top',))), left(kept, (3,)), left(kept, ())]
[(3, ('top', 'link')), True, (2, 1), (1, 0)]
>>> kept.let_go((3,))
>>> kept.memory()
((((0, 0), (2, ('copy', 1)), (5, ('copy', 0))),), ((0, 1, (5, 0), ()), (1, 2, (0, ('copy', 0)), ((3, 'num', 8),))))
>>> [kept.wanted, [kept.read_at(moment, ('top', 'num')) for moment in kept.wanted], needed_copies(kept, (3, 5))]
[(3, 5), [8, 5], (0, 1)]
>>> told = kept.call('raise', ())
>>> [kept.wanted, kept.memory()[1][0], kept.read_at(6, ('top', 'num'))]
[(3, 5, 6), (0, 1, (5, 0), ((6, 'num', 6),)), 6]

>>> from everymoment.charges import bound, charges, cheapest, copied, led, most_linkers, price, shows_charges, space, used_lines, written
>>> from everymoment.keeping import kept_of
>>> from everymoment.texts import Program
>>> row = Program('fields key next\ndoors top low\npart push n\nnew r\nset r key n\nset r next top\nput top r\nkind k low\nif k\nelse\nput low r\nend\npart poke n\nset low key n')
>>> calls = (('push', (1,)), ('push', (2,)), ('push', (3,)), ('poke', (4,)), ('poke', (5,)), ('poke', (6,)), ('poke', (7,)))
>>> [(copied(kept), led(kept), space(kept), used_lines(kept), bound(kept)) for kept in [kept_of(row, spare, calls) for spare in (0, 1, 2, None)]]
[(12, 8, (15, 0), 0, None), (3, 3, (6, 4), 1, 9), (1, 1, (4, 4), 2, 4), (0, 0, (3, 4), 4, 0)]
>>> kept = kept_of(row, 1, calls)
>>> written(kept), most_linkers(kept), [copy[:2] for copy in kept.memory()[1]]
(9, 1, [(0, 1), (1, 2), (2, 3), (0, 5), (0, 7), (1, 7)])
>>> [shows_charges(kept, value) for value in (((3, (0,)), (4, (5, 6)), (5, (8,))), ((3, (7,)), (4, (5,)), (5, (8,))), charges(kept))]
[True, False, True]
>>> price(row, calls, 1, 10, 1), cheapest(row, calls, 10, 1), cheapest(row, calls, 1, 10)
(64, (4, 34), (0, 15))

>>> from everymoment.keeping import kept_of
>>> from everymoment.towers import beyond, shows_beyond, tower, tower_builds, tower_calls, tower_copies
>>> tower(2, 2).text.split('\n')[2:]
['part build', 'new r0', 'put low r0', 'new r1', 'set r1 up r0', 'new r2', 'set r2 up r0', 'part poke n', 'set low key n']
>>> [kept_of(tower(2, 3), spare, tower_calls(16)).copies - 7 for spare in (0, 1, 2, 3)]
[112, 24, 7, 6]
>>> [tower_copies(2, spare, 3, 16) for spare in (0, 1, 2, 3)]
[112, 24, 7, 6]
>>> [tower_copies(3, 3, 50, 4 ** 50) * 100 > 99 * 4 ** 50, tower_copies(3, 3, 50, 4 ** 50) < 4 ** 50, tower_builds(2, 3)]
[True, True, 6]
>>> [beyond(2, spare, 1, 2) is None for spare in (1, 2, 3, 4)]
[False, False, True, True]
>>> levels, many = beyond(2, 1, 7, 1)
>>> [tower_copies(2, 1, levels, many) > 7 * (many + tower_builds(2, levels)), shows_beyond(2, 3, 1, 2, None), shows_beyond(2, 1, 1, 1, (3, 2))]
[True, True, False]

>>> from everymoment.asking import alike_moments, changes, door_history, history, since, until, when
>>> from everymoment.keeping import Kept
>>> from everymoment.texts import Program
>>> rows = ['fields key after', 'doors head', 'part push k', 'new r', 'set r key k', 'set r after head', 'put head r']
>>> stack = Program('\n'.join(rows + ['part pop', 'kind any head', 'if any', 'get head head after', 'end', 'part mark k', 'set head key k']))
>>> kept = Kept(stack, 1)
>>> for name, numbers in (('push', (5,)), ('push', (7,)), ('mark', (9,)), ('pop', ()), ('mark', (5,))):
...     told = kept.call(name, numbers)
>>> [history(kept, 0, 'key'), history(kept, 1, 'key'), door_history(kept, 'head')]
[((1, 5),), ((2, 7), (3, 9)), ((0, 0), (1, ('record', 0)), (2, ('record', 1)), (4, ('record', 0)))]
>>> [since(kept, 3, 1, 'after'), until(kept, 3, 0, 'key'), since(kept, 5, 1, 'key')]
[2, 5, 3]
>>> [when(kept, ('head', 'key'), 5), when(kept, ('head', 'after'), ('record', 0)), when(kept, ('head', 'key'), None)]
[((1, 1), (4, 5)), ((2, 3),), ((0, 0),)]
>>> changes(kept, 1, 3)
(('door', 'head', ('record', 0), ('record', 1)), ('made', 1))
>>> changes(kept, 4, 2)
(('door', 'head', ('record', 0), ('record', 1)), ('field', 1, 'key', 9, 7))
>>> alike_moments(kept)
((0,), (1, 4, 5), (2,), (3,))

>>> from everymoment.branches import Tree
>>> from everymoment.texts import Program
>>> heap = Program('fields key next\ndoors top\npart push n\nnew r\nset r key n\nset r next top\nput top r\npart poke n\nset top key n\ntell top')
>>> tree = Tree(heap)
>>> [tree.call(0, 'push', (5,)), tree.call(1, 'push', (7,)), tree.call(1, 'poke', (6,)), tree.call(3, 'push', (7,))]
[(1, ()), (2, ()), (3, (('record', 0),)), (4, ())]
>>> [tree.order, tree.parent(3), tree.path(4), tree.records_of(4), tree.calls_of(4)[1]]
[(0, 1, 3, 4, 2), 1, (0, 1, 3, 4), (0, 2), ('poke', (6,))]
>>> [tree.read_at(moment, ('top', 'next', 'key')) for moment in (0, 1, 2, 3, 4)]
[None, None, 5, None, 6]
>>> [tree.lines(0, 'key'), tree.door_lines('top')]
[((1, 5), (3, 6), (2, 5)), ((0, 0), (1, ('record', 0)), (4, ('record', 2)), (2, ('record', 1)))]
>>> [tree.common(2, 4), tree.changes(2, 4), tree.lines_many]
[1, (('door', 'top', ('record', 1), ('record', 2)), ('field', 0, 'key', 5, 6), ('gone', 1), ('made', 2)), 12]
>>> [tree.shape_at(4), tree.field_at(2, 0, 'key'), tree.call(1, 'poke', (5,))[0], tree.lines(0, 'key')]
[((('record', 0),), ((7, ('record', 1)), (6, 0))), 5, 5, ((1, 5), (3, 6), (2, 5))]
>>> tree.call(2, 'poke', (7,)), tree.call(1, 'poke', (6,)), tree.order, tree.lines(0, 'key')
((6, (('record', 1),)), (7, (('record', 0),)), (0, 1, 7, 5, 3, 4, 2, 6), ((1, 5), (7, 6), (5, 5), (3, 6), (2, 5)))

>>> from everymoment.desk import Desk
>>> from everymoment.journals import journal, read_journal
>>> text = 'fields val link\ndoors top\npart push v\nnew n\nset n val v\nset n link top\nput top n\ntell n\npart low v\nget n top link\nset n val v'
>>> desk = Desk(text + '\nspare 0\ndeeds\ncall push 5\ncall push 7')
>>> [desk.say(line) for line in ('copies', 'call low 3', 'copies', 'call push 1', 'copies')]
['2 0', 'none', '4 0', 'record 2', '5 0']
>>> [desk.say(line) for line in ('at 2 top link val', 'at 4 top link link val', 'at 1 top link link', 'history 0 val', 'needed 2')]
['5', '3', '-', '1 5 ; 3 3', '0 1']
>>> [desk.say(line) for line in ('shape 2', 'respare 1', 'copies', 'needed 2 4')]
['record 0 ; 7, record 1 ; 5, 0', 'done', '3 1', '0 1 2']
>>> [desk.say(line) for line in ('let_go 1', 'copies', 'at 4 top link val', 'undo', 'let_go')], desk.bench.wanted
(['done', '3 1', '7', 'done', 'done'], (4,))
>>> journal(desk.bench).split('\n')[11:]
['spare 0', 'deeds', 'call push 5', 'call push 7', 'call low 3', 'call push 1', 'respare 1', 'let_go']
>>> [read_journal(journal(desk.bench)) == desk.bench, len(desk.bench), 3 in desk.bench]
[True, 4, False]
"""

import doctest
import pathlib
import unittest

README = pathlib.Path(__file__).parent.parent / 'README.md'


class ExamplesTest(unittest.TestCase):

    def assert_examples(self, text, name, least):
        test = doctest.DocTestParser().get_doctest(text, {}, name, name, 0)
        self.assertGreaterEqual(len(test.examples), least)
        said = []
        results = doctest.DocTestRunner(verbose=False).run(test, out=said.append)
        self.assertEqual(results.failed, 0, ''.join(said))

    def test_examples_of_the_document(self):
        self.assert_examples(__doc__, 'points of the document', 130)

    def test_examples_of_the_readme(self):
        self.assert_examples(README.read_text(encoding='utf-8'), 'README.md', 5)


if __name__ == '__main__':
    unittest.main()
