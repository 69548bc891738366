"""A second reading of points 4 and 5, written another way, against which the package is held."""

import copy
import re

WORDS = 'fields doors part new get set put add less same kind tell call if else end while'.split()
NAME = '(?!(?:' + '|'.join(WORDS) + ')(?![a-z0-9]))[a-z][a-z0-9]{0,5}(?![a-z0-9])'
NUMBER = '(?:0|-?[1-9][0-9]{0,3})(?![0-9a-z])'
X = '(%s)' % NAME
V = '(%s|%s)' % (NAME, NUMBER)
SHAPES = {'new': [X], 'get': [X, V, X], 'set': [V, X, V], 'put': [X, V], 'add': [X, V, V], 'less': [X, V, V],
          'same': [X, V, V], 'kind': [X, V], 'tell': [V], 'if': [V], 'while': [V], 'else': [], 'end': []}
FIELD_AT = {'get': 2, 'set': 1}


def names_in(line, head, least, most):
    """The names behind the head of a line, or None if it has not this form."""
    if not re.fullmatch('%s(?: %s){%d,%d}' % (head, NAME, least, most), line):
        return None
    return line.split(' ')[1:]


def stands(lines):
    """Whether the last line can stand behind the others, which can."""
    if len(lines) > 150:
        return False
    fields = names_in(lines[0], 'fields', 1, 5)
    if len(lines) == 1:
        return fields is not None and len(fields) == len(set(fields))
    doors = names_in(lines[1], 'doors', 1, 3)
    if len(lines) == 2:
        return doors is not None and len(set(fields + doors)) == len(fields + doors)
    heads = [line.split(' ') for line in lines[2:] if line.split(' ')[0] == 'part']
    words = lines[-1].split(' ')
    if words[0] == 'part':
        return part_stands(lines, fields + doors, heads)
    if not heads:
        return False
    if words[0] == 'call':
        counts = {head[1]: len(head) - 2 for head in heads[:-1]}
        if len(words) < 2 or words[1] not in counts:
            return False
        form, given = [V] * counts[words[1]], words[2:]
    else:
        if words[0] not in SHAPES:
            return False
        form, given = SHAPES[words[0]], words[1:]
    if len(form) != len(given) or not all(re.fullmatch(*pair) for pair in zip(form, given)):
        return False
    barred = set(fields) | {head[1] for head in heads}
    for at, word in enumerate(given):
        if (word not in fields) if FIELD_AT.get(words[0]) == at else (word in barred):
            return False
    return block_stands(lines)


def part_stands(lines, cells, heads):
    names = names_in(lines[-1], 'part', 1, 4)
    if names is None or len(set(names)) < len(names) or len(heads) > 12:
        return False
    used = set(' '.join(line for line in lines[2:-1]).split(' ')) - set(WORDS)
    if names[0] in used or names[0] in cells:
        return False
    if set(names[1:]) & set(cells + [head[1] for head in heads]):
        return False
    return opened(lines[:-1]) == []


def opened(lines):
    """The words of the blocks that are open behind these lines, 'else' for an if behind its else."""
    blocks = []
    for line in lines[2:]:
        word = line.split(' ')[0]
        if word in ('if', 'while'):
            blocks.append(word)
        elif word == 'else':
            blocks[-1] = 'else'
        elif word == 'end':
            blocks.pop()
    return blocks


def block_stands(lines):
    blocks, word = opened(lines[:-1]), lines[-1].split(' ')[0]
    if word == 'else':
        return blocks[-1:] == ['if']
    if word == 'end':
        return blocks != []
    return word not in ('if', 'while') or len(blocks) < 6


def refusal(text):
    """The number that BadProgram has for this text; None if it is a program."""
    lines = text.split('\n')
    for many in range(1, len(lines) + 1):
        if not stands(lines[:many]):
            return many
    if opened(lines) or not any(line.split(' ')[0] == 'part' for line in lines[2:]):
        return len(lines) + 1
    return None


class Broken(Exception):
    """A fault, with its line."""


class Thing(dict):
    """A record: its fields by name. Unlike dicts, two of them are never equal."""

    number = 0

    def __eq__(self, other):
        return self is other


class Machine:
    """Does calls on records that are objects, and keeps a deep copy of all for each moment."""

    def __init__(self, text):
        self.lines = text.split('\n')
        self.fields = self.lines[0].split(' ')[1:]
        self.bodies = {}
        self.parameters = {}
        at = 2
        while at < len(self.lines):
            _, name, *parameters = self.lines[at].split(' ')
            self.parameters[name] = parameters
            self.bodies[name], at = self.block(at + 1)
        self.doors = {name: 0 for name in self.lines[1].split(' ')[1:]}
        self.things = []
        self.written = []
        self.moment = 0

    def block(self, at):
        """The statements from a line on, up to the end of their block: (line, words, then, otherwise)."""
        rows = []
        while at < len(self.lines):
            words = self.lines[at].split(' ')
            if words[0] in ('end', 'else', 'part'):
                return rows, at
            row = [at + 1, words, [], []]
            at += 1
            if words[0] in ('if', 'while'):
                row[2], at = self.block(at)
                if self.lines[at] == 'else':
                    row[3], at = self.block(at + 1)
                at += 1
            rows.append(row)
        return rows, at

    def call(self, name, numbers):
        """What the call tells, records by numbers; Broken(line)."""
        kept = copy.deepcopy((self.doors, self.things)), list(self.written)
        self.told, self.steps = [], 0
        try:
            self.part(name, list(numbers))
        except Broken:
            (self.doors, self.things), self.written = kept
            raise
        self.moment += 1
        return tuple(self.shown(value) for value in self.told)

    @staticmethod
    def shown(value):
        return ('record', value.number) if isinstance(value, Thing) else value

    def part(self, name, given):
        self.rows(self.bodies[name], dict(zip(self.parameters[name], given)))

    def rows(self, rows, held):
        for line, words, then, otherwise in rows:
            if words[0] == 'while':
                while self.look(line, words[1], held):
                    self.rows(then, held)
            elif words[0] == 'if':
                self.rows(then if self.look(line, words[1], held) else otherwise, held)
            else:
                self.step(line)
                self.statement(line, words, held)

    def step(self, line):
        self.steps += 1
        if self.steps == 2001:
            raise Broken(line)

    def look(self, line, word, held):
        self.step(line)
        value = self.value(word, held)
        return isinstance(value, Thing) or value != 0

    def value(self, word, held):
        if re.fullmatch('-?[0-9]+', word):
            return int(word)
        return self.doors[word] if word in self.doors else held.get(word, 0)

    def statement(self, line, words, held):
        word, given = words[0], [self.value(word, held) for word in words[1:]]
        linked = [isinstance(value, Thing) for value in given]
        if word == 'tell':
            self.told.append(given[0])
        elif word == 'call':
            self.part(words[1], given[1:])
        elif word == 'set':
            self.check(line, linked[0])
            thing, field = given[0], words[2]
            if self.shown(thing[field]) != self.shown(given[2]):
                self.written.append((self.moment + 1, thing.number, field, self.shown(given[2])))
            thing[field] = given[2]
        else:
            result = self.result(line, word, words, given, linked)
            (self.doors if words[1] in self.doors else held)[words[1]] = result

    def result(self, line, word, words, given, linked):
        if word == 'new':
            self.check(line, len(self.things) < 200)
            self.things.append(Thing({name: 0 for name in self.fields}))
            self.things[-1].number = len(self.things) - 1
            return self.things[-1]
        if word == 'get':
            self.check(line, linked[1])
            return given[1][words[3]]
        if word in ('add', 'less'):
            self.check(line, not linked[1] and not linked[2])
            return sorted((-9999, given[1] + given[2], 9999))[1] if word == 'add' else int(given[1] < given[2])
        if word == 'same':
            return int(self.shown(given[1]) == self.shown(given[2]))
        return int(linked[1]) if word == 'kind' else given[1]

    @staticmethod
    def check(line, holds):
        if not holds:
            raise Broken(line)

    def state(self):
        """What stands, as samples.standing tells it of a store."""
        return ([self.shown(value) for value in self.doors.values()],
                [[self.shown(thing[name]) for name in self.fields] for thing in self.things])
