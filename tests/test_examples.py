r"""The examples of points 4 and 5, and those of README.md.

>>> from everymoment.texts import Program
>>> rows = ['fields key after', 'doors head', 'part push k', 'new r', 'set r key k', 'set r after head', 'put head r']
>>> rows = rows + ['part bump k', 'put at head', 'kind more at', 'while more', 'get old at key', 'add old old k', 'set at key old']
>>> stack = Program('\n'.join(rows + ['get at at after', 'kind more at', 'end', 'part top', 'kind any head', 'if any', 'get k head key', 'tell k', 'else', 'tell 0', 'end']))
>>> [stack.fields, stack.doors, stack.parts]
[('key', 'after'), ('head',), (('push', 1), ('bump', 1), ('top', 0))]
>>> [stack.part_at('bump'), stack.line(11), stack.line(17)]
[(8, 17), 'while more', 'end']
>>> def refused(text):
...     try:
...         Program(text)
...     except ValueError as error:
...         return error.value
>>> begun = 'fields f\ndoors d\npart p x\n'
>>> [refused(begun + row) for row in ('put x y', 'set x d 1', 'call p 1', 'if x', 'end', 'part d', 'put f 1', 'add x 1')]
[None, 4, 4, 5, 4, 4, 4, 4]
>>> [refused(text) for text in (None, '', 'fields f\ndoors d', 'fields f f', begun + 'while x\nelse', begun + 'if x\npart q')]
[0, 1, 3, 1, 5, 5]

>>> from everymoment.stores import ran, Store, writes
>>> from everymoment.texts import Program
>>> pile = Program('fields val next\ndoors top\npart push n\nnew r\nset r val n\nset r next top\nput top r\npart total\nput s 0\nput r top\nkind k r\nwhile k\nget v r val\nadd s s v\nget r r next\nkind k r\nend\ntell s\npart pop\nget v top val\nget top top next\ntell v')
>>> store = Store(pile)
>>> [store.call('push', (3,)), store.call('push', (5,)), store.call('total', ()), store.moment, store.records]
[(), (), (8,), 3, 2]
>>> [store.door('top'), store.field(1, 'next'), store.read(('top', 'next', 'val')), store.read(('top', 'next', 'next')), store.read(('top', 'next', 'next', 'val'))]
[('record', 1), ('record', 0), 3, 0, None]
>>> writes(pile, store.calls)
((1, 0, 'val', 3), (2, 1, 'val', 5), (2, 1, 'next', ('record', 0)))
>>> [store.call('pop', ()), store.call('pop', ()), store.door('top')]
[(5,), (3,), 0]
>>> from everymoment.errors import Fault
>>> try:
...     store.call('pop', ())
... except Fault as error:
...     print(error.value, store.moment)
20 5
>>> store.back(2)
>>> [store.door('top'), store == ran(pile, (('push', (3,)), ('push', (5,)), ('total', ()))), len(store)]
[('record', 1), True, 3]
"""

import doctest
import pathlib
import unittest

README = pathlib.Path(__file__).parent.parent / 'README.md'


class ExamplesTest(unittest.TestCase):

    def assert_examples(self, text, name, least):
        test = doctest.DocTestParser().get_doctest(text, {}, name, name, 0)
        self.assertGreaterEqual(len(test.examples), least)
        said = []
        results = doctest.DocTestRunner(verbose=False).run(test, out=said.append)
        self.assertEqual(results.failed, 0, ''.join(said))

    def test_examples_of_the_document(self):
        self.assert_examples(__doc__, 'points 4 and 5', 19)

    def test_examples_of_the_readme(self):
        self.assert_examples(README.read_text(encoding='utf-8'), 'README.md', 5)


if __name__ == '__main__':
    unittest.main()
