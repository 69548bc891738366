"""Memories, judged: the MEMORY of any machine is read, and held against what plain Stores did, without that machine."""

from everymoment.errors import BadMemory, BadMoment
from everymoment.kinds import are_cells, check_way, is_ascending, is_between, is_cell, is_integer, is_whole
from everymoment.stores import done_calls, first_state
from everymoment.texts import check_program

# In a MEMORY a copy is (record, moment, contents, lines), a line of it (moment, FIELD, INNER), a line of a door
# (moment, INNER).


def are_door_lines(value, copies):
    """Whether any value is the tuple of lines of a door, in a MEMORY of so many copies."""
    if not isinstance(value, tuple) or not value:
        return False
    if not all([isinstance(line, tuple) and len(line) == 2 and is_whole(line[0]) for line in value]):
        return False
    if not all([is_cell(line[1], "copy", copies) for line in value]):
        return False
    return value[0][0] == 0 and is_ascending([line[0] for line in value])


def is_copy_line(program, value, copies):
    """Whether any value is a line of a copy, in a MEMORY of so many copies."""
    if not isinstance(value, tuple) or len(value) != 3:
        return False
    moment, field, inner = value
    return is_whole(moment) and field in program.fields and is_cell(inner, "copy", copies)


def is_copy(program, value, copies):
    """Whether any value is a copy, looked at by itself, in a MEMORY of so many copies."""
    if not isinstance(value, tuple) or len(value) != 4:
        return False
    record, moment, contents, lines = value
    if not is_whole(record) or not is_whole(moment) or not isinstance(lines, tuple):
        return False
    if not are_cells(contents, len(program.fields), "copy", copies):
        return False
    if not all([is_copy_line(program, line, copies) for line in lines]):
        return False
    moments = [line[0] for line in lines]
    if moments != sorted(moments) or len(set([line[:2] for line in lines])) < len(lines):
        return False
    return not lines or moments[0] > moment


def are_one_behind_another(copies):
    """Whether copies of one record have ascending moments, and no line that is later than the copy behind it."""
    later = {}
    for record, moment, _, lines in reversed(copies):
        if record in later:
            if moment >= later[record] or lines and lines[-1][0] > later[record]:
                return False
        later[record] = moment
    return True


def is_form(program, value):
    """Whether any value is a MEMORY of the program; NoProgram."""
    check_program(program)
    if not isinstance(value, tuple) or len(value) != 2:
        return False
    doors, copies = value
    if not isinstance(doors, tuple) or not isinstance(copies, tuple) or len(doors) != len(program.doors):
        return False
    many = len(copies)
    if not all([are_door_lines(lines, many) for lines in doors]):
        return False
    return all([is_copy(program, copy, many) for copy in copies]) and are_one_behind_another(copies)


def check_memory(program, value):
    """BadMemory(value) unless it is a MEMORY of the program; NoProgram."""
    if not is_form(program, value):
        raise BadMemory(value)


def check_any_moment(value):
    """BadMoment(value) unless it is an integer from 0 on."""
    if not is_whole(value):
        raise BadMoment(value)


def door_line_at(lines, moment):
    """The number of the line of a door that tells of a moment."""
    return max([at for at, line in enumerate(lines) if line[0] <= moment])


def told_doors(memory, moment):
    """What the doors tell at a moment: INNERS."""
    return tuple([lines[door_line_at(lines, moment)][1] for lines in memory[0]])


def copy_line_at(copy, field, moment):
    """The number of the line of a copy that tells of a field at a moment; None if the contents do."""
    lines = copy[3]
    for at in reversed(range(len(lines))):
        if lines[at][0] <= moment and lines[at][1] == field:
            return at
    return None


def told_field(program, copy, field, moment):
    """What a copy tells of a field at a moment: an INNER."""
    at = copy_line_at(copy, field, moment)
    return copy[2][program.fields.index(field)] if at is None else copy[3][at][2]


def told_row(program, copy, moment):
    """What a copy tells of each field at a moment."""
    return tuple([told_field(program, copy, field, moment) for field in program.fields])


def told_inner(program, memory, moment, way):
    """The INNER that a WAY comes to at a moment; None if a NUMBER is told ahead of its end."""
    inner = told_doors(memory, moment)[program.doors.index(way[0])]
    for field in way[1:]:
        if isinstance(inner, int):
            return None
        inner = told_field(program, memory[1][inner[1]], field, moment)
    return inner


def value_of(memory, inner):
    """The VALUE that an INNER stands for; None for None."""
    return ("record", memory[1][inner[1]][0]) if isinstance(inner, tuple) else inner


def told_value(program, memory, number, field, moment):
    """The VALUE that the copy with this number tells of a field at a moment."""
    return value_of(memory, told_field(program, memory[1][number], field, moment))


def plain_values(program, memory, moment, pairs):
    """(doors, rows): the VALUES that are told at a moment, rows being (record, VALUES) of pairs (record, copy)."""
    doors = [value_of(memory, inner) for inner in told_doors(memory, moment)]
    rows = []
    for record, number in pairs:
        inners = told_row(program, memory[1][number], moment)
        rows.append((record, tuple([value_of(memory, inner) for inner in inners])))
    return (tuple(doors), tuple(rows))


def spans_of(memory):
    """For each copy (record, first moment of its stretch, last one), the last one None if there is none."""
    later = {}
    found = []
    for record, moment, _, _ in reversed(memory[1]):
        found.append((record, moment, later[record] - 1 if record in later else None))
        later[record] = moment
    return found[::-1]


def is_within(span, moment):
    """Whether a moment is in a stretch."""
    _, begun, until = span
    return begun <= moment and (until is None or moment <= until)


def pairs_at(memory, moment):
    """(record, number) of each copy whose stretch has this moment, ascending."""
    return sorted([(span[0], at) for at, span in enumerate(spans_of(memory)) if is_within(span, moment)])


def stretches(program, memory):
    """(record, from, until) of each copy; NoProgram, BadMemory."""
    check_memory(program, memory)
    return tuple(spans_of(memory))


def map_at(program, memory, moment):
    """(record, copy) of each copy whose stretch has this moment; NoProgram, BadMemory, BadMoment."""
    check_memory(program, memory)
    check_any_moment(moment)
    return tuple(pairs_at(memory, moment))


def memory_read(program, memory, moment, way):
    """What a WAY reads at a moment; NoProgram, BadMemory, BadMoment, BadWay."""
    check_memory(program, memory)
    check_any_moment(moment)
    check_way(program, way)
    return value_of(memory, told_inner(program, memory, moment, way))


def plain_of(program, memory, moment):
    """(doors, rows): the VALUES that stand at a moment; NoProgram, BadMemory, BadMoment."""
    check_memory(program, memory)
    check_any_moment(moment)
    return plain_values(program, memory, moment, pairs_at(memory, moment))


def births_of(states):
    """For each record the moment at which it was made, by what stood at each moment."""
    births = {}
    for moment, (_, rows) in enumerate(states):
        for record in range(len(rows)):
            births.setdefault(record, moment)
    return births


class Judge:
    """A MEMORY beside what stood at each moment that CALLS made; NoProgram, BadCalls."""

    def __init__(self, program, calls, claim):
        outcomes = done_calls(program, calls)
        self.program = program
        self.states = [first_state(program)] + [outcome[1] for outcome in outcomes]
        self.births = births_of(self.states)
        self.has_form = is_form(program, claim)
        self.claim = claim if self.has_form else ((), ())
        self.spans = spans_of(self.claim)
        # For each record the moment of its first copy.
        self.begun = {}
        for record, moment, _ in self.spans:
            self.begun.setdefault(record, moment)

    def stands_for(self, inner, value, moment):
        """Whether an INNER stands for a VALUE at a moment."""
        if isinstance(inner, int) or isinstance(value, int):
            return inner == value
        span = self.spans[inner[1]]
        return span[0] == value[1] and is_within(span, moment)

    def is_wrong_record(self, record):
        """Whether a record has copies without being made, or none, or its first one at another moment."""
        return is_integer(record) and self.births.get(record) != self.begun.get(record)

    def is_wrong_door(self, door, moment):
        """Whether a door tells at a moment what does not stand for what it held."""
        if door not in self.program.doors or not is_between(moment, 0, len(self.states) - 1):
            return False
        at = self.program.doors.index(door)
        return not self.stands_for(told_doors(self.claim, moment)[at], self.states[moment][0][at], moment)

    def is_wrong_copy(self, number, field, moment):
        """Whether a copy tells of a field, at a moment of its stretch, what does not stand for what it held."""
        if not is_between(number, 0, len(self.spans) - 1) or field not in self.program.fields:
            return False
        if not is_between(moment, 0, len(self.states) - 1) or not is_within(self.spans[number], moment):
            return False
        record = self.spans[number][0]
        rows = self.states[moment][1]
        if record >= len(rows):
            return False
        inner = told_field(self.program, self.claim[1][number], field, moment)
        return not self.stands_for(inner, rows[record][self.program.fields.index(field)], moment)

    def is_wrong(self, place):
        """Whether any value is a place at which the MEMORY is not right."""
        if not isinstance(place, tuple) or not place:
            return False
        if place[0] == "record" and len(place) == 2:
            return self.is_wrong_record(place[1])
        if place[0] == "door" and len(place) == 3:
            return self.is_wrong_door(place[1], place[2])
        return place[0] == "copy" and len(place) == 4 and self.is_wrong_copy(place[1], place[2], place[3])

    def wrong_record(self):
        """The first place of a record that is wrong; None if there is none."""
        for record in sorted(set(list(self.births) + list(self.begun))):
            if self.is_wrong_record(record):
                return ("record", record)
        return None

    def wrong_door(self):
        """The first place of a door that is wrong; None if there is none."""
        for door in self.program.doors:
            for moment in range(len(self.states)):
                if self.is_wrong_door(door, moment):
                    return ("door", door, moment)
        return None

    def wrong_copy(self):
        """The first place of a copy that is wrong; None if there is none."""
        last = len(self.states) - 1
        for number, (_, begun, until) in enumerate(self.spans):
            for moment in range(begun, last + 1 if until is None else min(until, last) + 1):
                for field in self.program.fields:
                    if self.is_wrong_copy(number, field, moment):
                        return ("copy", number, field, moment)
        return None

    def first_wrong(self):
        """The first place that is wrong: -1 for what is no MEMORY, None if all is right."""
        if not self.has_form:
            return -1
        return self.wrong_record() or self.wrong_door() or self.wrong_copy()


def is_memory(program, calls, value):
    """Whether any value is a MEMORY that is right for CALLS; NoProgram, BadCalls."""
    return Judge(program, calls, value).first_wrong() is None


def wrong_place(program, calls, value):
    """A place at which any value is not right for CALLS, None if it is; NoProgram, BadCalls."""
    return Judge(program, calls, value).first_wrong()


def shows_wrong_place(program, calls, claim, value):
    """Whether any value is right as what wrong_place tells of a claim; NoProgram, BadCalls."""
    judge = Judge(program, calls, claim)
    if not judge.has_form:
        return value == -1
    if value is None:
        return judge.first_wrong() is None
    return judge.is_wrong(value)
