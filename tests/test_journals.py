"""Point 14: journals, what they tell, and which texts are read back."""

import unittest

from everymoment.benches import Bench
from everymoment.errors import BadJournal
from everymoment.journals import journal, read_journal
from samples import STACK, odd_values, program_of, raised, text_of

HEAP = program_of('fields val link', 'doors top', 'part push v', 'new n', 'set n val v', 'set n link top', 'put top n',
                  'tell n', 'part low v', 'get n top link', 'set n val v', 'part both v w', 'part none')
BEGUN = HEAP.text + '\nspare 0\ndeeds'
# The number of the line deeds.
AT = BEGUN.count('\n') + 1


def grown(spare=0):
    bench = Bench(HEAP.text, spare)
    bench.call('push', (5,))
    bench.call('push', (-7,))
    bench.call('both', (-9999, 9999))
    bench.respare(None)
    bench.call('none', ())
    bench.respare(3)
    bench.let_go((1, 2))
    bench.let_go(())
    bench.call('low', (0,))
    return bench


LINES = ['call push 5', 'call push -7', 'call both -9999 9999', 'respare -', 'call none', 'respare 3', 'let_go 1 2',
         'let_go', 'call low 0']


def refused(test, text):
    return raised(test, BadJournal, read_journal, text)


class JournalTest(unittest.TestCase):

    def test_journal(self):
        self.assertEqual(journal(Bench(HEAP.text, 0)), BEGUN)
        self.assertEqual(journal(bench=grown()).split('\n'), BEGUN.split('\n') + LINES)
        # The spare is the one at first, whatever came later.
        for spare, word in ((0, '0'), (8, '8'), (None, '-')):
            self.assertEqual(journal(grown(spare)).split('\n')[AT - 2], 'spare ' + word)

    def test_what_is_undone_stands_not_in_it(self):
        bench = grown()
        for many in range(len(LINES), -1, -1):
            self.assertEqual(journal(bench).split('\n')[AT:], LINES[:many])
            if many:
                bench.undo()
        bench.redo()
        self.assertEqual(journal(bench).split('\n')[AT:], LINES[:1])

    def test_in_a_block(self):
        bench = grown()
        with bench.block():
            bench.call('none', ())
            self.assertEqual(journal(bench).split('\n')[AT:], LINES + ['call none'])
        self.assertEqual(journal(bench).split('\n')[AT:], LINES)

    def test_read_back(self):
        for spare in (0, 3, None):
            bench = grown(spare)
            other = read_journal(text=journal(bench))
            self.assertIs(type(other), Bench)
            self.assertTrue(other == bench)
            self.assertEqual(journal(other), journal(bench))
            self.assertTrue(other.kept_now() == bench.kept_now())
            self.assertEqual(other.kept_now().memory(), bench.kept_now().memory())
            self.assertEqual([other.spare, other.wanted, other.deeds, other.moment],
                             [bench.spare, bench.wanted, bench.deeds, bench.moment])
            other.undo()
            bench.undo()
            self.assertTrue(other == bench)


class ReadTest(unittest.TestCase):

    def test_no_string(self):
        for value in odd_values() + [[BEGUN], (BEGUN,), BEGUN.encode()]:
            if type(value) is not str:
                self.assertEqual(refused(self, value), 0)

    def test_no_line_deeds(self):
        for text in ('', 'x', 'spare 0', HEAP.text, HEAP.text + '\nspare 0', '\n\n', 'fields', BEGUN + ' ', 'Deeds',
                     text_of('x', 'call push 5', 'deeds 1')):
            self.assertEqual(refused(self, text), text.count('\n') + 2)
        self.assertEqual([refused(self, text) for text in ('', 'x\n', HEAP.text)], [2, 3, 14])

    def test_too_few_lines_ahead(self):
        self.assertEqual(refused(self, 'deeds'), 1)
        self.assertEqual(refused(self, 'spare 0\ndeeds'), 2)
        self.assertEqual(refused(self, 'odd\ndeeds\ncall x'), 2)
        self.assertEqual(refused(self, '\ndeeds'), 2)
        self.assertEqual(refused(self, 'deeds\n' + BEGUN), 1)
        # With two lines ahead, the first one is the program.
        self.assertEqual(refused(self, 'odd\nspare 0\ndeeds'), 1)
        self.assertEqual(refused(self, 'fields f\nspare 0\ndeeds'), 2)
        self.assertEqual(refused(self, '\n\ndeeds'), 1)

    def test_programs_that_are_none(self):
        lines = BEGUN.split('\n')
        for number in range(1, AT - 1):
            bent = lines[:number - 1] + ['odd'] + lines[number:]
            self.assertEqual(refused(self, '\n'.join(bent)), number)
            # Ahead of the spare, whatever its line is.
            self.assertEqual(refused(self, '\n'.join(bent[:-2] + ['odd', 'deeds', 'odd'])), number)
        self.assertEqual(refused(self, text_of('fields f', 'doors d', 'spare 0', 'deeds')), 3)
        self.assertEqual(refused(self, text_of('fields f', 'doors d', 'part p', 'if d', 'spare 0', 'deeds')), 5)
        self.assertEqual(refused(self, text_of(HEAP.text, 'spare 0', 'spare 0', 'deeds')), AT - 1)

    def test_spares(self):
        for word, spare in (('0', 0), ('8', 8), ('-', None)):
            self.assertEqual(read_journal(text_of(HEAP.text, 'spare ' + word, 'deeds')).spare, spare)
        for line in ('', 'spare', 'spare ', 'spare  0', ' spare 0', 'spare 0 ', 'spare 0 0', 'Spare 0', 'spare 00',
                     'spare +1', 'spare -0', 'spare 9', 'spare -1', 'spare 10', 'spare --', 'spare None', 'spare x',
                     'respare 0', '0', '-', 'spare 1.0', 'spare 0_1', 'spare true', 'spare - -'):
            self.assertEqual(refused(self, text_of(HEAP.text, line, 'deeds', 'odd')), AT - 1)

    def test_deeds(self):
        self.assertEqual(read_journal(BEGUN).deeds, 0)
        self.assertEqual(read_journal(BEGUN + '\n' + '\n'.join(LINES)).deeds, 9)
        for at in range(len(LINES) + 1):
            for line in ('', ' ', 'odd', 'deeds', 'spare 0', 'undo', 'redo', 'call', 'call ', 'call  push 5',
                         ' call push 5', 'call push 5 ', 'call push  5', 'call push', 'call push 5 5', 'call odd 5',
                         'call push x', 'call push 05', 'call push -0', 'call push +5', 'call push 5.0', 'call push -',
                         'call push 10000', 'call push -10000', 'call push 5,', 'call push --5', 'call push 1_0',
                         'Call push 5', 'calls push 5', 'call_push 5', 'let_go ', 'let_go x', 'let_go 99', 'let_go -1',
                         'let_go 0 0', 'let_go 2 1', 'let_go 00', 'let_go  0', 'letgo', 'let_go -', 'let go',
                         'respare', 'respare ', 'respare 9', 'respare -1', 'respare 1 1', 'respare x', 'respare 01',
                         'respare None', 'respare --', 'at 0 top', 'copies', 'call both 1', 'call low'):
                text = '\n'.join([BEGUN] + LINES[:at] + [line] + LINES[at:])
                self.assertEqual(refused(self, text), AT + at + 1, line)
                # The first one counts.
                self.assertEqual(refused(self, text + '\nodd'), AT + at + 1)

    def test_refused_as_they_stand_behind_those_ahead(self):
        self.assertEqual(refused(self, BEGUN + '\ncall low 5'), AT + 1)
        self.assertEqual(refused(self, BEGUN + '\ncall push 5\ncall low 5'), AT + 2)
        self.assertEqual(read_journal(BEGUN + '\ncall push 5\ncall push 6\ncall low 5').deeds, 3)
        self.assertEqual(refused(self, BEGUN + '\nlet_go 0\nrespare 1'), AT + 2)
        self.assertEqual(refused(self, BEGUN + '\ncall none\nlet_go 1\nlet_go 0'), AT + 3)
        self.assertEqual(refused(self, BEGUN + '\nlet_go 1'), AT + 1)

    def test_a_part_that_bears_the_words_of_journals(self):
        text = text_of('fields deeds f', 'doors spare', 'part let_go')
        self.assertEqual(refused(self, text + '\nspare 0\ndeeds'), 3)
        odd = text_of('fields deeds f', 'doors spare', 'part undo x', 'put spare x', 'tell spare')
        bench = read_journal(odd + '\nspare -\ndeeds\ncall undo 5')
        self.assertEqual([bench.spare, bench.moment, bench.kept_now().door_at(1, 'spare')], [None, 1, 5])
        self.assertTrue(read_journal(journal(bench)) == bench)
        self.assertEqual(refused(self, STACK.text + '\nspare 0\ndeeds\ncall pop'), STACK.text.count('\n') + 4)


if __name__ == '__main__':
    unittest.main()
