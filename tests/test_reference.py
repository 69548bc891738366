"""Points 4 and 5, held against a second reading on many texts and calls, the same ones in each run."""

import random
import unittest

from everymoment.errors import BadProgram, Fault
from everymoment.stores import Store, ran, writes
from everymoment.texts import Program
from reference import Broken, Machine, refusal
from samples import PILE, STACK, standing

LOCALS = ('a', 'b', 'c')
NUMBERS = ('0', '1', '-1', '2', '9999', '-9999')


class Maker:
    """Makes texts of programs, and texts that are nearly such."""

    def __init__(self, seed):
        self.random = random.Random(seed)

    def text(self):
        fields = ('f', 'g', 'h')[:self.random.randint(1, 3)]
        self.doors = ('d', 'e')[:self.random.randint(1, 2)]
        self.fields = fields
        self.made = []
        lines = ['fields ' + ' '.join(fields), 'doors ' + ' '.join(self.doors)]
        for number in range(self.random.randint(1, 4)):
            many = self.random.randint(0, 3)
            lines.append(' '.join(('part', 'p' + str(number)) + LOCALS[:many]))
            lines += self.statements(self.random.randint(2, 10), 0)
            self.made.append(('p' + str(number), many))
        return '\n'.join(lines)

    def x(self):
        return self.random.choice(LOCALS + self.doors)

    def v(self):
        return self.random.choice(LOCALS + self.doors + self.doors + (self.random.choice(NUMBERS),))

    def statements(self, many, depth):
        lines = []
        for _ in range(many):
            lines += self.statement(depth)
        return lines

    def statement(self, depth):
        word = self.random.choice(('new', 'new', 'new', 'get', 'set', 'set', 'set', 'put', 'put', 'add', 'less', 'same',
                                   'kind', 'tell', 'call', 'if', 'while'))
        field = self.random.choice(self.fields)
        if word in ('if', 'while') and depth < 3:
            lines = [word + ' ' + self.v()] + self.statements(self.random.randint(0, 3), depth + 1)
            if word == 'if' and self.random.random() < 0.5:
                lines += ['else'] + self.statements(self.random.randint(0, 3), depth + 1)
            return lines + ['end']
        if word == 'call' and self.made:
            name, many = self.random.choice(self.made)
            return [' '.join(['call', name] + [self.v() for _ in range(many)])]
        # Most gets and sets go to what has just been asked for being a record, as else nearly all would fault.
        if word in ('get', 'set') and depth < 3:
            record = self.random.choice(LOCALS + self.doors)
            line = ' '.join(('get', self.x(), record, field) if word == 'get' else ('set', record, field, self.v()))
            return [line] if self.random.random() < 0.1 else ['kind c ' + record, 'if c', line, 'end']
        if word in ('add', 'less', 'same'):
            return [' '.join((word, self.x(), self.v(), self.random.choice(NUMBERS)))]
        if word in ('put', 'kind'):
            return [' '.join((word, self.x(), self.v()))]
        return ['tell ' + self.v()] if word == 'tell' else ['new ' + self.x()]

    def bent(self, text):
        """A text that is another one in a line or two."""
        lines = text.split('\n')
        for _ in range(self.random.randint(1, 2)):
            at = self.random.randrange(len(lines))
            deed = self.random.randrange(5)
            words = lines[at].split(' ')
            if deed == 0:
                del lines[at]
            elif deed == 1:
                lines.insert(at, self.random.choice(lines + ['', 'end', 'else', 'if a', 'part q', 'part a', 'tell z']))
            elif deed == 2:
                words[self.random.randrange(len(words))] = self.random.choice(
                    ('f', 'd', 'a', 'p0', 'p1', 'z', '5', '-0', '10000', '', 'end', 'abcdefg', 'part', 'set', 'A'))
                lines[at] = ' '.join(words)
            elif deed == 3:
                lines[at] = ' '.join(words + [self.random.choice(('a', 'd', 'f', '1', ''))])
            elif len(words) > 1:
                del words[self.random.randrange(len(words))]
                lines[at] = ' '.join(words)
            lines = lines or ['']
        return '\n'.join(lines)


def number_of(text):
    """What BadProgram tells of a text; None if it is a program."""
    try:
        Program(text)
    except BadProgram as error:
        return error.value
    return None


class ReadingTest(unittest.TestCase):

    def test_texts_are_refused_at_the_same_line(self):
        maker = Maker(1)
        for _ in range(600):
            text = maker.text()
            self.assertIsNone(number_of(text), text)
            for _ in range(3):
                other = maker.bent(text)
                self.assertEqual(number_of(other), refusal(other), other)

    def test_beginnings_of_texts(self):
        for text in (STACK.text, PILE.text):
            for end in range(len(text)):
                self.assertEqual(number_of(text[:end]), refusal(text[:end]), text[:end])


class RunningTest(unittest.TestCase):

    def do_both(self, store, machine, name, numbers):
        """Does a call at both machines, which must tell the same."""
        elder = standing(store)
        try:
            told = machine.call(name, numbers)
        except Broken as error:
            with self.assertRaises(Fault) as caught:
                store.call(name, numbers)
            self.assertEqual(caught.exception.value, error.args[0])
            self.assertEqual(standing(store), elder)
            return
        self.assertEqual(store.call(name, numbers), told)
        self.assertEqual(standing(store)[5:], machine.state())
        self.assertEqual(store.moment, elder[1] + 1)

    def test_calls_do_the_same(self):
        maker = Maker(2)
        for _ in range(250):
            program = Program(maker.text())
            store, machine = Store(program), Machine(program.text)
            for _ in range(8):
                name, many = maker.random.choice(program.parts)
                self.do_both(store, machine, name, tuple(maker.random.randint(-2, 4) for _ in range(many)))
            self.assertEqual(writes(program, store.calls), tuple(machine.written))
            self.assertEqual(standing(ran(program, store.calls)), standing(store))

    def test_back_leads_to_what_was(self):
        maker = Maker(3)
        for _ in range(60):
            program = Program(maker.text())
            store = Store(program)
            seen = [standing(store)]
            for _ in range(6):
                name, many = maker.random.choice(program.parts)
                try:
                    store.call(name, (1,) * many)
                except Fault:
                    continue
                seen.append(standing(store))
            for many in range(1, store.moment + 1):
                other = store.copy()
                other.back(many)
                self.assertEqual(standing(other), seen[-1 - many])


if __name__ == '__main__':
    unittest.main()
