"""Point 14: a desk, line by line."""

import unittest

from everymoment.asking import history
from everymoment.benches import Bench
from everymoment.charges import space
from everymoment.desk import Desk
from everymoment.errors import (
    BadJournal, BadMoment, BadMoments, BadNumbers, BadSpare, BadTask, BadWay, Fault, LetGo, NoField, NoPart, NoRecord,
    NothingToRedo, NothingToUndo)
from everymoment.journals import journal
from everymoment.leaving import needed_copies
from samples import WEB, odd_values, program_of, raised

HEAP = program_of('fields val link', 'doors top', 'part push v', 'new n', 'set n val v', 'set n link top', 'put top n',
                  'tell n', 'part low v', 'get n top link', 'set n val v', 'part all', 'tell top', 'tell -5', 'tell 0',
                  'part clear', 'put top 0')
BEGUN = HEAP.text + '\nspare 0\ndeeds'


def desk_of(*lines, begun=BEGUN):
    desk = Desk(begun)
    for line in lines:
        desk.say(line)
    return desk


def grown():
    return desk_of('call push 5', 'call push 7', 'call low 3', 'call push 1')


class DeskTest(unittest.TestCase):

    def test_a_desk_at_first(self):
        desk = Desk(text=BEGUN + '\ncall push 5')
        self.assertIs(type(desk.bench), Bench)
        self.assertEqual([desk.bench.moment, journal(desk.bench)], [1, BEGUN + '\ncall push 5'])
        for value in odd_values():
            if type(value) is not str:
                self.assertEqual(raised(self, BadJournal, Desk, value), 0)
        self.assertEqual(raised(self, BadJournal, Desk, HEAP.text), HEAP.text.count('\n') + 2)
        self.assertEqual(raised(self, BadJournal, Desk, BEGUN + '\ncall odd'), BEGUN.count('\n') + 2)

    def test_the_very_bench(self):
        desk = Desk(BEGUN)
        bench = desk.bench
        desk.say('call push 5')
        self.assertIs(desk.bench, bench)
        self.assertEqual(bench.moment, 1)
        bench.call('push', (7,))
        self.assertEqual(desk.say(line='at 2 top val'), '7')
        with bench.block():
            desk.say('call push 9')
            self.assertEqual(desk.say('at 3 top val'), '9')
        self.assertEqual([desk.say('copies'), bench.deeds], ['2 0', 2])

    def test_calls(self):
        desk = Desk(BEGUN)
        self.assertEqual([desk.say(line) for line in ('call all', 'call push 5', 'call push -7', 'call low 9999',
                                                      'call all')],
                         ['0 ; -5 ; 0', 'record 0', 'record 1', 'none', 'record 1 ; -5 ; 0'])
        self.assertEqual(desk.bench.kept_now().calls, (
            ('all', ()), ('push', (5,)), ('push', (-7,)), ('low', (9999,)), ('all', ())))

    def test_other_deeds(self):
        desk = grown()
        self.assertEqual([desk.say(line) for line in ('respare 1', 'undo', 'redo', 'respare -', 'let_go 1 3', 'let_go',
                                                      'undo', 'undo', 'undo')], ['done'] * 9)
        self.assertEqual([desk.bench.spare, desk.bench.deeds, desk.bench.wanted], [1, 5, (0, 1, 2, 3, 4)])
        self.assertEqual([desk.say(line) for line in ('redo', 'redo')], ['done', 'done'])
        self.assertEqual([desk.bench.spare, desk.bench.wanted], [None, (1, 3, 4)])

    def test_at(self):
        desk = grown()
        self.assertEqual([desk.say(line) for line in (
            'at 0 top', 'at 1 top', 'at 2 top link val', 'at 4 top link link val', 'at 1 top link link',
            'at 1 top link', 'at 4 top link')], ['0', 'record 0', '5', '3', '-', '0', 'record 1'])
        desk.say('call push -9999')
        self.assertEqual(desk.say('at 5 top val'), '-9999')

    def test_shape(self):
        desk = grown()
        self.assertEqual([desk.say('shape 0'), desk.say('shape 1'), desk.say('shape 2')],
                         ['0', 'record 0 ; 5, 0', 'record 0 ; 7, record 1 ; 5, 0'])
        web = desk_of('call make 1', 'call turn', 'call make -2', begun=WEB.text + '\nspare 1\ndeeds')
        self.assertEqual([web.say('shape ' + str(moment)) for moment in range(4)], [
            '0, 0', 'record 0, 0 ; 1, 0, 0', '0, record 0 ; 1, 0, 0',
            'record 0, record 1 ; -2, 0, record 1 ; 1, 0, 0'])

    def test_copies(self):
        desk = grown()
        self.assertEqual(desk.say('copies'), '5 0')
        desk.say('respare 1')
        self.assertEqual(desk.say('copies'), '3 1')
        self.assertEqual(Desk(BEGUN).say('copies'), '0 0')
        self.assertEqual(desk.say('copies'), '{} {}'.format(*space(desk.bench.kept_now())))

    def test_history(self):
        desk = grown()
        self.assertEqual([desk.say(line) for line in ('history 0 val', 'history 1 link', 'history 0 link',
                                                      'history 2 val')],
                         ['1 5 ; 3 3', '2 record 0', '1 0', '4 1'])
        self.assertEqual(history(desk.bench.kept_now(), 0, 'val'), ((1, 5), (3, 3)))
        desk.say('let_go 1 2')
        self.assertEqual(desk.say('history 0 val'), '1 5 ; 4 3')

    def test_needed(self):
        desk = grown()
        lines = ('needed', 'needed 0', 'needed 2', 'needed 1 4', 'needed 0 1 2 3')
        self.assertEqual([desk.say(line) for line in lines], ['none', 'none', '0 1', '0 2 3 4', '0 1 2 3'])
        self.assertEqual(needed_copies(desk.bench.kept_now(), (1, 4)), (0, 2, 3, 4))


class RefusalsTest(unittest.TestCase):

    def test_no_task(self):
        desk = grown()
        desk.say('undo')
        elder = journal(desk.bench)
        for value in odd_values() + [['copies'], ('copies',), b'copies']:
            self.assertIs(raised(self, BadTask, desk.say, value), value)
        for line in ('', ' ', '\n', 'copies\n', '\ncopies', 'copies\ncopies', 'copies ', ' copies', 'copies 1',
                     'Copies', 'undo 1', 'undo ', 'undone', 'redo 2', 'redo\n', 'UNDO', 'call', 'call ', 'call push x',
                     'call  push 5', 'call push 5 ', 'call push 05', 'call push +5', 'call push -0',
                     'call push record 0', 'calls push 5', 'call all\n', 'call all\ncopies', 'at 1 top\n',
                     'at 1 top\nlink', 'history 0 val\n', 'let_go x', 'let_go -', 'let_go  1', 'let_go 01',
                     'let_go 1,2', 'letgo', 'respare', 'respare x',
                     'respare 1 2', 'respare 00', 'respare none', 'at', 'at 1', 'at 1 ', 'at top 1', 'at x top',
                     'at 1  top', 'at 01 top', 'at -0 top', 'at 1.0 top', 'at - top', 'shape', 'shape x', 'shape 1 2',
                     'shape 1 ', 'shape 01', 'shape -', 'shapes 1', 'history', 'history 0', 'history val',
                     'history val 0', 'history 0 val link', 'history x val', 'history 00 val', 'history 0 ',
                     'history - val', 'needed x', 'needed 1 x', 'needed 01', 'needed ', 'needed 1 ', 'needed -',
                     'deeds', 'spare 0', 'journal', 'block', 'keep', 'none', 'done', 'push 5'):
            self.assertIs(raised(self, BadTask, desk.say, line), line)
        self.assertEqual(journal(desk.bench), elder)
        self.assertEqual(desk.say('redo'), 'done')

    def test_what_the_bench_or_the_function_raises(self):
        desk = grown()
        desk.say('undo')
        elder = journal(desk.bench)
        for line, error, value in (
                ('call odd', NoPart, 'odd'), ('call odd 1 2 3 4 5', NoPart, 'odd'), ('call Push 5', NoPart, 'Push'),
                ('call push', BadNumbers, ()), ('call push 1 2', BadNumbers, (1, 2)),
                ('call push 10000', BadNumbers, (10000,)), ('call push -10000', BadNumbers, (-10000,)),
                ('let_go 9', BadMoments, (9,)), ('let_go -1', BadMoments, (-1,)), ('let_go 2 1', BadMoments, (2, 1)),
                ('respare 9', BadSpare, 9), ('respare -1', BadSpare, -1),
                ('at 9 top', BadMoment, 9), ('at -1 odd', BadMoment, -1), ('at 1 odd', BadWay, ('odd',)),
                ('at 1 top top', BadWay, ('top', 'top')), ('at 1 5', BadWay, ('5',)), ('shape 4', BadMoment, 4),
                ('shape -5', BadMoment, -5), ('history 2 odd', NoRecord, 2), ('history -1 val', NoRecord, -1),
                ('history 0 top', NoField, 'top'), ('history 0 5', NoField, '5'), ('needed 4', BadMoments, (4,)),
                ('needed 1 1', BadMoments, (1, 1)), ('needed -1', BadMoments, (-1,))):
            self.assertEqual(raised(self, error, desk.say, line), value, line)
        self.assertEqual(journal(desk.bench), elder)
        self.assertEqual(desk.say('redo'), 'done')
        self.assertIsNone(raised(self, NothingToRedo, desk.say, 'redo'))
        empty = Desk(BEGUN)
        self.assertIsNone(raised(self, NothingToUndo, empty.say, 'undo'))
        self.assertEqual(raised(self, Fault, empty.say, 'call low 5'), 10)
        empty.say('let_go')
        self.assertIsNone(raised(self, LetGo, empty.say, 'respare 1'))
        self.assertEqual(raised(self, BadSpare, empty.say, 'respare 9'), 9)

    def test_behind_letting_go(self):
        desk = grown()
        desk.say('let_go 1')
        lines = ('copies', 'at 4 top link link val', 'at 1 top val', 'needed 1 4')
        self.assertEqual([desk.say(line) for line in lines], ['4 0', '3', '5', '0 1 2 3'])
        self.assertEqual(raised(self, BadMoment, desk.say, 'at 2 top'), 2)
        self.assertEqual(raised(self, BadMoment, desk.say, 'shape 3'), 3)
        self.assertEqual(raised(self, BadMoments, desk.say, 'needed 1 2'), (1, 2))


if __name__ == '__main__':
    unittest.main()
