"""Branches: calls are done upon any moment there ever was, and all futures stay."""

from everymoment.asking import changes_between, turns
from everymoment.errors import NoRecord
from everymoment.kinds import check_door, check_field, check_moment, check_way, is_between, is_integer
from everymoment.shapes import numbered_anew, shape_in
from everymoment.stores import done, first_state, follow
from everymoment.texts import check_program


def cells_of(program, standing):
    """What each door, and each (record, field), holds in (doors, rows)."""
    doors, rows = standing
    cells = dict(zip(program.doors, doors))
    for record, row in rows.items():
        for field, value in zip(program.fields, row):
            cells[(record, field)] = value
    return cells


def lines_brought(elder, new, later):
    """How many lines a new moment brings to the list, by the cells of it and of those on both of its sides there.

    The elder one is its parent. A record is in the later one's cells just if that one is in the record's stretch.
    """
    many = 0
    for cell, value in new.items():
        if cell not in elder:
            many += 1
        elif value != elder[cell]:
            many += 1
            # The later moment may need a line now, or none any more.
            if cell in later and later[cell] == elder[cell]:
                many += 1
            if cell in later and later[cell] == value:
                many -= 1
    return many


class Tree:
    """A tree of moments. Trees are equal if programs are, and all calls, each upon the same moment."""

    def __init__(self, program):
        check_program(program)
        self.program = program
        # For each moment its parent, and the call that was done upon it.
        self._deeds = ((None, None),)
        # For each moment what stands in a Store that did the calls of its path, and the numbers that the records of
        # this Store have in the tree.
        self._states = (first_state(program),)
        self._numbers = ((),)
        self.moments = 1
        self.records = 0
        self.order = (0,)
        self.lines_many = len(program.doors)

    def __eq__(self, other):
        return isinstance(other, Tree) and self.program == other.program and self._deeds == other._deeds

    def call(self, moment, name, numbers):
        """Does a part upon a moment: (the new moment, the VALUES told); BadMoment, NoPart, BadNumbers, Fault."""
        check_moment(self.order, moment)
        told, state, _ = done(self.program, self._states[moment], name, numbers)
        made = len(state[1]) - len(self._numbers[moment])
        held = self._numbers[moment] + tuple(range(self.records, self.records + made))
        self._deeds = self._deeds + ((moment, (name, numbers)),)
        self._states = self._states + (state,)
        self._numbers = self._numbers + (held,)
        self.records += made
        self._put_into_list(moment)
        return (self.moments - 1, numbered_anew(told, held))

    def _put_into_list(self, parent):
        """Puts the newest moment into the list, behind its parent, and counts the lines that come by that."""
        at = self.order.index(parent) + 1
        later = self._cells(self.order[at]) if at < len(self.order) else {}
        self.lines_many += lines_brought(self._cells(parent), self._cells(self.moments), later)
        self.order = self.order[:at] + (self.moments,) + self.order[at:]
        self.moments += 1

    def _told(self, moment, value):
        """What a VALUE, or None, of a Store at this moment is in the tree."""
        return numbered_anew((value,), self._numbers[moment])[0]

    def _standing(self, moment):
        """(doors, rows): the VALUES that stand at a moment, rows by records."""
        doors, rows = self._states[moment]
        held = self._numbers[moment]
        return (numbered_anew(doors, held), {record: numbered_anew(row, held) for record, row in zip(held, rows)})

    def _cells(self, moment):
        """What each door, and each (record, field), holds at a moment."""
        return cells_of(self.program, self._standing(moment))

    def parent(self, moment):
        """The moment upon which this one came; None of 0; BadMoment."""
        check_moment(self.order, moment)
        return self._deeds[moment][0]

    def path(self, moment):
        """The moments from 0 to this one, each one the parent of the next one; BadMoment."""
        check_moment(self.order, moment)
        found = [moment]
        while found[-1] > 0:
            found.append(self._deeds[found[-1]][0])
        return tuple(found[::-1])

    def calls_of(self, moment):
        """The CALLS done on the path of a moment; BadMoment."""
        return tuple([self._deeds[passed][1] for passed in self.path(moment)[1:]])

    def records_of(self, moment):
        """The records that are there, by the numbers that a Store would give them; BadMoment."""
        check_moment(self.order, moment)
        return self._numbers[moment]

    def door_at(self, moment, door):
        """The VALUE that a door held at a moment; BadMoment, NoDoor."""
        check_moment(self.order, moment)
        check_door(self.program, door)
        return self._told(moment, self._states[moment][0][self.program.doors.index(door)])

    def field_at(self, moment, record, field):
        """The VALUE that a field of a record held at a moment; BadMoment, NoRecord, NoField."""
        check_moment(self.order, moment)
        if not is_integer(record) or record not in self._numbers[moment]:
            raise NoRecord(record)
        check_field(self.program, field)
        row = self._states[moment][1][self._numbers[moment].index(record)]
        return self._told(moment, row[self.program.fields.index(field)])

    def read_at(self, moment, way):
        """What a WAY read at a moment; BadMoment, BadWay."""
        check_moment(self.order, moment)
        check_way(self.program, way)
        return self._told(moment, follow(self.program, self._states[moment], way))

    def shape_at(self, moment):
        """The SHAPE at a moment; BadMoment."""
        check_moment(self.order, moment)
        return shape_in(self.program, self._states[moment])

    def common(self, one, other):
        """The last moment that is on both paths; BadMoment."""
        passed = self.path(one)
        return [moment for moment in self.path(other) if moment in passed][-1]

    def changes(self, one, other):
        """What is unlike at two moments, told from the first one to the other one; BadMoment."""
        check_moment(self.order, one)
        check_moment(self.order, other)
        return changes_between(self.program, self._standing(one), self._standing(other))

    def lines(self, record, field):
        """The lines of a field of a record, in the sequence of the list; NoRecord, NoField."""
        if not is_between(record, 0, self.records - 1):
            raise NoRecord(record)
        stretch = [moment for moment in self.order if record in self._numbers[moment]]
        return turns([(moment, self.field_at(moment, record, field)) for moment in stretch])

    def door_lines(self, door):
        """The lines of a door, in the sequence of the list; NoDoor."""
        return turns([(moment, self.door_at(moment, door)) for moment in self.order])

    def copy(self):
        """An equal Tree by itself."""
        other = Tree(self.program)
        other._deeds = self._deeds
        other._states = self._states
        other._numbers = self._numbers
        other.moments = self.moments
        other.records = self.records
        other.order = self.order
        other.lines_many = self.lines_many
        return other
