"""Makes texts of programs, the same ones for the same seed."""

import random

from everymoment.texts import Program
from samples import WEB

LOCALS = ('a', 'b', 'c')
NUMBERS = ('0', '1', '-1', '2', '9999', '-9999')


class Maker:
    """Makes texts of programs, and texts that are nearly such."""

    def __init__(self, seed):
        self.random = random.Random(seed)

    def text(self):
        fields = ('f', 'g', 'h')[:self.random.randint(1, 3)]
        self.doors = ('d', 'e')[:self.random.randint(1, 2)]
        self.fields = fields
        self.made = []
        lines = ['fields ' + ' '.join(fields), 'doors ' + ' '.join(self.doors)]
        for number in range(self.random.randint(1, 4)):
            many = self.random.randint(0, 3)
            lines.append(' '.join(('part', 'p' + str(number)) + LOCALS[:many]))
            lines += self.statements(self.random.randint(2, 10), 0)
            self.made.append(('p' + str(number), many))
        return '\n'.join(lines)

    def web(self):
        """The text of a program whose parts go some way from a door, and write to what is there."""
        self.fields = ('f', 'g', 'h')[:self.random.randint(2, 3)]
        self.doors = ('d', 'e')
        lines = ['fields ' + ' '.join(self.fields), 'doors d e', 'part made n', 'new a', 'set a f n', 'set a g d',
                 'put d a', 'kind k e', 'if k', 'else', 'put e a', 'end']
        for number in range(6):
            if len(lines) < 95:
                lines += ['part p' + str(number) + ' n'] + self.walk() + (self.walk() if number > 2 else [])
        return '\n'.join(lines)

    def walk(self):
        """Statements that go from a door along fields, and write to the last record on the way, or put a door."""
        x, door = self.random.choice('ab'), self.random.choice(self.doors)
        lines = ['put ' + x + ' ' + door]
        for _ in range(self.random.choice((0, 0, 1, 1, 2, 3))):
            lines += ['kind k ' + x, 'if k', ' '.join(('get', x, x, self.random.choice(self.fields))), 'end']
        deed = self.random.random()
        if deed < 0.15:
            return lines + ['kind k ' + x, 'if k', 'put ' + self.random.choice(self.doors) + ' ' + x, 'end']
        if deed < 0.3:
            lines += ['new b', 'set b ' + self.random.choice(self.fields) + ' ' + x]
        values = [self.random.choice(('n', '0', 'a', 'b', 'd', 'e', 'n')) for _ in range(self.random.randint(1, 3))]
        writes = [' '.join(('set', x, self.random.choice(self.fields), value)) for value in values]
        return lines + ['kind k ' + x, 'if k'] + writes + ['end']

    def x(self):
        return self.random.choice(LOCALS + self.doors)

    def v(self):
        return self.random.choice(LOCALS + self.doors + self.doors + (self.random.choice(NUMBERS),))

    def statements(self, many, depth):
        lines = []
        for _ in range(many):
            lines += self.statement(depth)
        return lines

    def statement(self, depth):
        word = self.random.choice(('new', 'new', 'new', 'get', 'set', 'set', 'set', 'put', 'put', 'add', 'less', 'same',
                                   'kind', 'tell', 'call', 'if', 'while'))
        field = self.random.choice(self.fields)
        if word in ('if', 'while') and depth < 3:
            lines = [word + ' ' + self.v()] + self.statements(self.random.randint(0, 3), depth + 1)
            if word == 'if' and self.random.random() < 0.5:
                lines += ['else'] + self.statements(self.random.randint(0, 3), depth + 1)
            return lines + ['end']
        if word == 'call' and self.made:
            name, many = self.random.choice(self.made)
            return [' '.join(['call', name] + [self.v() for _ in range(many)])]
        # Most gets and sets go to what has just been asked for being a record, as else nearly all would fault.
        if word in ('get', 'set') and depth < 3:
            record = self.random.choice(LOCALS + self.doors)
            line = ' '.join(('get', self.x(), record, field) if word == 'get' else ('set', record, field, self.v()))
            return [line] if self.random.random() < 0.1 else ['kind c ' + record, 'if c', line, 'end']
        if word in ('add', 'less', 'same'):
            return [' '.join((word, self.x(), self.v(), self.random.choice(NUMBERS)))]
        if word in ('put', 'kind'):
            return [' '.join((word, self.x(), self.v()))]
        return ['tell ' + self.v()] if word == 'tell' else ['new ' + self.x()]

    def bent(self, text):
        """A text that is another one in a line or two."""
        lines = text.split('\n')
        for _ in range(self.random.randint(1, 2)):
            at = self.random.randrange(len(lines))
            deed = self.random.randrange(5)
            words = lines[at].split(' ')
            if deed == 0:
                del lines[at]
            elif deed == 1:
                lines.insert(at, self.random.choice(lines + ['', 'end', 'else', 'if a', 'part q', 'part a', 'tell z']))
            elif deed == 2:
                words[self.random.randrange(len(words))] = self.random.choice(
                    ('f', 'd', 'a', 'p0', 'p1', 'z', '5', '-0', '10000', '', 'end', 'abcdefg', 'part', 'set', 'A'))
                lines[at] = ' '.join(words)
            elif deed == 3:
                lines[at] = ' '.join(words + [self.random.choice(('a', 'd', 'f', '1', ''))])
            elif len(words) > 1:
                del words[self.random.randrange(len(words))]
                lines[at] = ' '.join(words)
            lines = lines or ['']
        return '\n'.join(lines)


def programs(seed, many):
    """So many programs: of each five two that are as they come, two that write much, and WEB."""
    maker = Maker(seed)
    found = []
    for _ in range(many // 5):
        texts = [maker.text(), maker.web(), maker.text(), maker.web()]
        found += [Program(text) for text in texts] + [WEB]
    return found
