"""A second reading of points 6, 7, 8, 9, 11 and 12, on objects that link to one another."""

import itertools

from reference import Machine


class Copy:
    """A copy of a record: contents by field, lines as lists. Links are the copies themselves."""

    def __init__(self, record, moment, contents):
        self.record, self.moment, self.contents, self.lines = record, moment, contents, []

    def line(self, field, moment):
        """The line that tells of a field at a moment, or None."""
        lines = [line for line in self.lines if line[1] == field and line[0] <= moment]
        return lines[-1] if lines else None

    def told(self, field, moment):
        line = self.line(field, moment)
        return line[2] if line else self.contents[field]


class Rememberer(Machine):
    """Does calls as a Machine does, notes what they do to doors and records, and does that to copies."""

    def __init__(self, text, spare):
        super().__init__(text)
        self.spare = 10 ** 9 if spare is None else spare
        self.door_lines = {name: [[0, 0]] for name in self.doors}
        self.copies, self.newest, self.births = [], [], []
        self.wanted, self.let_go_at = [0], None
        self.copied, self.led, self.most = 0, 0, 0

    def statement(self, line, words, held):
        elder = {name: self.shown(value) for name, value in self.doors.items()}
        many = len(self.written)
        super().statement(line, words, held)
        if words[0] == 'new':
            self.deeds.append(('new',))
        if words[0] == 'set' and len(self.written) > many:
            self.deeds.append(('set',) + self.written[-1][1:])
            self.links.append(self.most_links())
        for name, value in self.doors.items():
            # What a called part put was noted as it was put.
            if words[0] != 'call' and self.shown(value) != elder[name]:
                self.deeds.append(('put', name, self.shown(value)))

    def most_links(self):
        """How many fields of records that aren't freed link to one record now, at most."""
        links = [value.number for thing in self.things if self.newest[thing.number:thing.number + 1] != [None]
                 for value in thing.values() if value != 0 and not isinstance(value, int)]
        return max([links.count(number) for number in links], default=0)

    def call(self, name, numbers):
        self.deeds, self.links = [], []
        told = super().call(name, numbers)
        self.wanted.append(self.moment)
        self.most = max([self.most] + self.links)
        for deed in self.deeds:
            self.do(*deed)
        return told

    def do(self, kind, *given):
        if kind == 'new':
            self.copies.append(Copy(len(self.newest), self.moment, {name: 0 for name in self.fields}))
            self.newest.append(self.copies[-1])
            self.births.append(self.moment)
        elif kind == 'put':
            self.put(given[0], self.linked(given[1]))
        else:
            self.todo = []
            self.write(given[0], given[1], self.linked(given[2]))
            while self.todo:
                record, field, target = self.todo[0]
                self.todo = self.todo[1:]
                self.write(record, field, self.newest[target])

    def linked(self, value):
        return self.newest[value[1]] if isinstance(value, tuple) else value

    def put(self, door, value):
        lines = self.door_lines[door]
        if lines[-1][0] == self.moment:
            lines[-1][1] = value
        else:
            lines.append([self.moment, value])

    def write(self, record, field, value):
        copy = self.newest[record]
        if copy.moment == self.moment:
            copy.contents[field] = value
            return
        for line in copy.lines:
            if line[0] == self.moment and line[1] == field:
                line[2] = value
                return
        if len(copy.lines) < self.spare:
            copy.lines.append([self.moment, field, value])
            return
        contents = {name: copy.told(name, self.moment) for name in self.fields}
        contents[field] = value
        newer = Copy(record, self.moment, contents)
        self.copies.append(newer)
        self.copied += 1
        self.newest[record] = newer
        for door in self.door_lines:
            if self.door_lines[door][-1][1] is copy:
                self.put(door, newer)
        for linking in self.newest:
            for name in self.fields:
                if linking is not None and linking.told(name, self.moment) is copy:
                    self.todo.append((linking.record, name, record))
                    self.led += 1

    def bare(self, value):
        return ('copy', self.copies.index(value)) if isinstance(value, Copy) else value

    def memory(self):
        doors = tuple(tuple((line[0], self.bare(line[1])) for line in lines) for lines in self.door_lines.values())
        return doors, tuple((copy.record, copy.moment, tuple(map(self.bare, copy.contents.values())),
                             tuple((line[0], line[1], self.bare(line[2])) for line in copy.lines))
                            for copy in self.copies)

    def door_line(self, door, moment):
        return [line for line in self.door_lines[door] if line[0] <= moment][-1]

    def read(self, moments):
        """The ids of lines, the (copy, field) of contents, and the copies that are read at one of these moments."""
        lines, contents, copies = set(), set(), set()
        for moment in moments:
            todo = []
            for door in self.door_lines:
                lines.add(id(self.door_line(door, moment)))
                todo.append(self.door_line(door, moment)[1])
            met = set()
            while todo:
                copy = todo.pop()
                if isinstance(copy, Copy) and copy not in met:
                    met.add(copy)
                    for name in self.fields:
                        line = copy.line(name, moment)
                        lines.add(id(line)) if line else contents.add((copy, name))
                        todo.append(copy.told(name, moment))
            copies |= met
        return lines, contents, copies

    def let_go(self, moments):
        self.wanted = sorted(set(moments) | {self.moment})
        self.let_go_at = self.moment
        present = self.read([self.moment])[2]
        lines, contents, copies = self.read(self.wanted)
        for door, held in self.door_lines.items():
            self.door_lines[door] = [line for at, line in enumerate(held) if at == 0 or id(line) in lines]
        self.newest = [copy if copy in present else None for copy in self.newest]
        self.copies = [copy for copy in self.copies if copy in copies]
        for copy in self.copies:
            copy.lines = [line for line in copy.lines if id(line) in lines]
            copy.contents = {name: value if (copy, name) in contents else 0 for name, value in copy.contents.items()}

    def needs(self, moments):
        lines, contents, _ = self.read(moments)
        return (tuple((at, number) for at, held in enumerate(self.door_lines.values())
                      for number, line in enumerate(held) if id(line) in lines),
                tuple((at, number) for at, copy in enumerate(self.copies)
                      for number, name in enumerate(self.fields) if (copy, name) in contents),
                tuple((at, number) for at, copy in enumerate(self.copies)
                      for number, line in enumerate(copy.lines) if id(line) in lines))

    def space(self):
        return len(self.copies), sum(len(copy.lines) for copy in self.copies)

    def used_lines(self):
        return sum(len(copy.lines) for copy in self.newest if copy is not None)

    def asked(self, moment):
        """The numbers of the records that can be asked at a wanted moment."""
        if self.let_go_at is not None and moment <= self.let_go_at:
            return sorted(copy.record for copy in self.read([moment])[2])
        return [record for record, birth in enumerate(self.births)
                if birth <= moment and self.newest[record] is not None]


def ways(program, longest):
    """All ways with at most so many fields."""
    for many in range(longest + 1):
        for door in program.doors:
            for names in itertools.product(program.fields, repeat=many):
                yield (door,) + names


def read(shape, program, way):
    """What a way reads in what has doors and rows."""
    value = shape[0][program.doors.index(way[0])]
    for name in way[1:]:
        if not isinstance(value, tuple):
            return None
        value = shape[1][value[1]][program.fields.index(name)]
    return value


def shape_of(program, doors, rows):
    """The SHAPE of what stands, by going from record to record as they are met."""
    numbers, met = {}, []

    def number(value):
        if isinstance(value, tuple):
            if value[1] not in numbers:
                numbers[value[1]] = len(met)
                met.append(value[1])
            return ('record', numbers[value[1]])
        return value

    new_doors, new_rows = tuple([number(value) for value in doors]), []
    while len(new_rows) < len(met):
        new_rows.append(tuple([number(value) for value in rows[met[len(new_rows)]]]))
    return new_doors, tuple(new_rows)


def has_form(program, value):
    """Whether any value is a MEMORY of the program, by the words of point 8."""
    try:
        check_form(program, value)
    except AssertionError:
        return False
    return True


def check_form(program, value):
    def demand(holds):
        if not holds:
            raise AssertionError

    def demand_tuple(given, many=None):
        demand(type(given) is tuple and many in (None, len(given)))

    def demand_whole(*given):
        for one in given:
            demand(type(one) is int and one >= 0)

    def demand_inner(given):
        if type(given) is tuple:
            demand_tuple(given, 2)
            demand_whole(given[1])
            demand(given[0] == 'copy' and given[1] < len(copies))
        else:
            demand(type(given) is int and -10000 < given < 10000)

    demand_tuple(value, 2)
    doors, copies = value
    demand_tuple(doors, len(program.doors))
    demand_tuple(copies)
    for lines in doors:
        demand_tuple(lines)
        demand(lines)
        for at, line in enumerate(lines):
            demand_tuple(line, 2)
            demand_whole(line[0])
            demand_inner(line[1])
            demand(line[0] > lines[at - 1][0] if at else line[0] == 0)
    for at, copy in enumerate(copies):
        demand_tuple(copy, 4)
        demand_whole(*copy[:2])
        demand_tuple(copy[2], len(program.fields))
        demand_tuple(copy[3])
        for inner in copy[2]:
            demand_inner(inner)
        for number, line in enumerate(copy[3]):
            demand_tuple(line, 3)
            demand_whole(line[0])
            demand(line[1] in list(program.fields))
            demand_inner(line[2])
            demand(line[0] > copy[1] and all(line[0] >= other[0] for other in copy[3][:number]))
            demand(line[:2] not in [other[:2] for other in copy[3][:number]])
        for other in copies[:at]:
            if other[0] == copy[0]:
                demand(other[1] < copy[1])
        elder = [other for other in copies[:at] if other[0] == copy[0]]
        if elder:
            demand(all(line[0] <= copy[1] for line in elder[-1][3]))


def wrong_places(program, states, memory):
    """All places at which a MEMORY is not right, these being (doors, rows) at each moment, by the words of point 8."""
    doors, copies = memory
    made, starts, found = {}, {}, set()
    for moment, (_, rows) in enumerate(states):
        for record in range(len(rows)):
            made.setdefault(record, moment)
    for record, moment, _, _ in copies:
        starts.setdefault(record, []).append(moment)
    for record in set(made) | set(starts):
        if record not in made or record not in starts or made[record] != starts[record][0]:
            found.add(('record', record))

    def is_live(copy, moment):
        later = [start for start in starts[copies[copy][0]] if start > copies[copy][1]]
        return copies[copy][1] <= moment and (not later or moment < later[0])

    def stands(inner, value, moment):
        if isinstance(inner, tuple) and isinstance(value, tuple):
            return copies[inner[1]][0] == value[1] and is_live(inner[1], moment)
        return inner == value

    for moment, (held, rows) in enumerate(states):
        for name, lines, value in zip(program.doors, doors, held):
            if not stands([inner for start, inner in lines if start <= moment][-1], value, moment):
                found.add(('door', name, moment))
        for copy, (record, _, contents, lines) in enumerate(copies):
            if is_live(copy, moment) and record < len(rows):
                for name, inner, value in zip(program.fields, contents, rows[record]):
                    told = [inner] + [line[2] for line in lines if line[0] <= moment and line[1] == name]
                    if not stands(told[-1], value, moment):
                        found.add(('copy', copy, name, moment))
    return found


def is_paper(memory, moments, least, value):
    """Whether any value charges each copy but first ones with so many of the writes of these moments, by point 9."""
    def is_whole(given, end):
        return type(given) is int and 0 <= given < end

    if type(value) is not tuple:
        return False
    for part in value:
        if not (type(part) is tuple and len(part) == 2 and type(part[1]) is tuple and is_whole(part[0], 10 ** 9)):
            return False
        if not all(is_whole(number, len(moments)) for number in part[1]):
            return False
        if list(part[1]) != sorted(set(part[1])) or len(part[1]) < least:
            return False
    copies = memory[1]
    later = [at for at, copy in enumerate(copies) if copy[0] in [other[0] for other in copies[:at]]]
    if [part[0] for part in value] != later:
        return False
    numbers = [number for part in value for number in part[1]]
    return len(numbers) == len(set(numbers)) and all(
        moments[number] <= copies[part[0]][1] for part in value for number in part[1])


def rows_of_moments(wanted, holds):
    """(first, last) of the longest rows of wanted moments at which something holds, holds being told of each."""
    found = []
    for holding, group in itertools.groupby(zip(wanted, holds), lambda pair: pair[1]):
        if holding:
            moments = [moment for moment, _ in group]
            found.append((moments[0], moments[-1]))
    return tuple(found)


def differences(program, one, other, asked, other_asked):
    """What changed between two (doors, rows), of which these records can be asked, by point 12."""
    found = [('door', name, *pair) for name, *pair in zip(program.doors, one[0], other[0]) if pair[0] != pair[1]]
    for record in range(max(asked + other_asked, default=-1) + 1):
        if record in asked and record in other_asked:
            found += [('field', record, name, *pair)
                      for name, *pair in zip(program.fields, one[1][record], other[1][record]) if pair[0] != pair[1]]
        elif record in asked + other_asked:
            found.append(('gone' if record in asked else 'made', record))
    return tuple(found)
