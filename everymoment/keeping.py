"""The remembering machine: it does calls as the plain one does, and can be asked at all moments."""

from everymoment.errors import NoRecord
from everymoment.kinds import check_door, check_field, check_moment, check_spare, check_way, is_between
from everymoment.leaving import check_moments, copies_at, needs_of, what_stays, with_present
from everymoment.memories import told_doors, told_field, told_inner, told_row, value_of
from everymoment.shapes import shape_from
from everymoment.stores import done, done_calls, first_state, ran
from everymoment.texts import check_program

# The MEMORY of a Kept, and all else that it holds, is made of tuples, which are never changed: so what it told, and
# its copies, stay as they are.


class Work:
    """What the deeds of a call that leads to a moment make of a MEMORY, and of which copies are the newest ones."""

    def __init__(self, program, spare, moment, memory, newest):
        doors, copies = memory
        self.fields = program.fields
        self.spare = spare
        self.moment = moment
        self.doors = dict(zip(program.doors, doors))
        self.copies = list(copies)
        # For each record the number of its newest copy, None if it is freed; and what that copy tells now.
        self.newest = list(newest)
        self.told = [() if at is None else told_row(program, copies[at], moment) for at in newest]
        # The fields that are to be led: (record, field, the record that was copied).
        self.queue = []

    def do(self, deed):
        """Does one deed, of those that done tells."""
        if deed[0] == "new":
            self.make()
        elif deed[0] == "put":
            self.put(deed[1], self.inner(deed[2]))
        else:
            self.write(deed[1], deed[2], self.inner(deed[3]))
            self.lead()

    def inner(self, value):
        """The INNER of a VALUE."""
        return ("copy", self.newest[value[1]]) if isinstance(value, tuple) else value

    def make(self):
        """Makes the first copy of a new record."""
        contents = (0,) * len(self.fields)
        self.newest.append(len(self.copies))
        self.told.append(contents)
        self.copies.append((len(self.newest) - 1, self.moment, contents, ()))

    def put(self, door, inner):
        """Puts a door."""
        lines = self.doors[door]
        if lines[-1][0] == self.moment:
            lines = lines[:-1]
        self.doors[door] = lines + ((self.moment, inner),)

    def write(self, record, field, inner):
        """Writes a field of a record, by the first of the four rules that applies."""
        number = self.newest[record]
        _, made, contents, lines = self.copies[number]
        at = self.fields.index(field)
        elder = self.told[record]
        told = elder[:at] + (inner,) + elder[at + 1:]
        self.told[record] = told
        line = (self.moment, field, inner)
        if made == self.moment:
            self.copies[number] = (record, made, told, lines)
        elif line[:2] in [held[:2] for held in lines]:
            changed = [line if held[:2] == line[:2] else held for held in lines]
            self.copies[number] = (record, made, contents, tuple(changed))
        elif self.spare is None or len(lines) < self.spare:
            self.copies[number] = (record, made, contents, lines + (line,))
        else:
            self.make_another(record)

    def make_another(self, record):
        """Makes a new copy of a record, of what is told of it now, and leads to it all that leads to the elder one."""
        elder = ("copy", self.newest[record])
        newer = ("copy", len(self.copies))
        self.newest[record] = len(self.copies)
        self.copies.append((record, self.moment, self.told[record], ()))
        for door in list(self.doors):
            if self.doors[door][-1][1] == elder:
                self.put(door, newer)
        self.queue.extend([(linking, field, record) for linking, row in enumerate(self.told) if elder in row
                           for field, inner in zip(self.fields, row) if inner == elder])

    def lead(self):
        """Writes all fields that are to be led, and those that are to be led by that."""
        while self.queue:
            linking, field, record = self.queue.pop(0)
            self.write(linking, field, ("copy", self.newest[record]))

    def memory(self):
        """The MEMORY as it is now."""
        return (tuple(self.doors.values()), tuple(self.copies))


class Kept:
    """A machine that remembers. Kepts are equal if programs, spares and deeds are."""

    def __init__(self, program, spare):
        check_program(program)
        check_spare(spare)
        self.program = program
        self.spare = spare
        self.calls = ()
        self.wanted = (0,)
        self._deeds = ()
        self._state = first_state(program)
        # For each record the moment at which it was made.
        self._births = ()
        # The moment at which let_go was done last, -1 if it never was.
        self._let_go_at = -1
        self._remember(((((0, 0),),) * len(program.doors), ()), ())

    def __len__(self):
        return len(self.calls)

    def __eq__(self, other):
        return (isinstance(other, Kept) and self.program == other.program and self.spare == other.spare
                and self._deeds == other._deeds)

    def _remember(self, memory, newest):
        """Holds this MEMORY; newest tells for each record the number of its newest copy, None if it is freed."""
        self._memory = memory
        self._newest = newest
        self.moment = len(self.calls)
        self.records = len(newest)
        self.copies = len(memory[1])

    def _take(self, call, outcome):
        """Takes a call that can be done, by what done tells of it."""
        _, state, deeds = outcome
        moment = self.moment + 1
        work = Work(self.program, self.spare, moment, self._memory, self._newest)
        for deed in deeds:
            work.do(deed)
        self.calls = self.calls + (call,)
        self.wanted = self.wanted + (moment,)
        self._deeds = self._deeds + (("call", call),)
        self._state = state
        self._births = self._births + (moment,) * (len(work.newest) - self.records)
        self._remember(work.memory(), tuple(work.newest))

    def call(self, name, numbers):
        """Does a part, and returns the VALUES told; NoPart, BadNumbers, Fault."""
        outcome = done(self.program, self._state, name, numbers)
        self._take((name, numbers), outcome)
        return outcome[0]

    def let_go(self, moments):
        """Lets go of all that is read neither at these moments nor at the present one; BadMoments."""
        check_moments(self, moments)
        wanted = with_present(self, moments)
        present = copies_at(self.program, self._memory, self.moment)
        memory, numbers = what_stays(self._memory, needs_of(self.program, self._memory, wanted))
        self.wanted = wanted
        self._deeds = self._deeds + (("let_go", moments),)
        self._let_go_at = self.moment
        self._remember(memory, tuple([numbers[number] if number in present else None for number in self._newest]))

    def memory(self):
        """The MEMORY: (doors, copies)."""
        return self._memory

    def read_at(self, moment, way):
        """What a WAY reads at a moment; BadMoment, BadWay."""
        check_moment(self.wanted, moment)
        check_way(self.program, way)
        return value_of(self._memory, told_inner(self.program, self._memory, moment, way))

    def door_at(self, moment, door):
        """The VALUE that a door held at a moment; BadMoment, NoDoor."""
        check_moment(self.wanted, moment)
        check_door(self.program, door)
        return value_of(self._memory, told_inner(self.program, self._memory, moment, (door,)))

    def _can_be_asked(self, moment, record):
        """Whether a record that was made so far can be asked at a moment that can be asked."""
        if moment > self._let_go_at:
            return self._births[record] <= moment and self._newest[record] is not None
        copies = self._memory[1]
        return record in [copies[number][0] for number in copies_at(self.program, self._memory, moment)]

    def copy_at(self, moment, record):
        """The number of the copy that was the newest one of a record at a moment; BadMoment, NoRecord."""
        check_moment(self.wanted, moment)
        if not is_between(record, 0, self.records - 1) or not self._can_be_asked(moment, record):
            raise NoRecord(record)
        # What was read at this moment, and so this copy, was never let go.
        return max([number for number, held in enumerate(self._memory[1]) if held[0] == record and held[1] <= moment])

    def field_at(self, moment, record, field):
        """The VALUE that a field of a record held at a moment; BadMoment, NoRecord, NoField."""
        held = self._memory[1][self.copy_at(moment, record)]
        check_field(self.program, field)
        return value_of(self._memory, told_field(self.program, held, field, moment))

    def shape_at(self, moment):
        """The SHAPE at a moment; BadMoment."""
        check_moment(self.wanted, moment)
        copies = self._memory[1]
        return shape_from(self.program, told_doors(self._memory, moment),
                          lambda number: told_row(self.program, copies[number], moment))

    def store_at(self, moment):
        """A Store that has done the calls up to a moment; BadMoment."""
        check_moment(self.wanted, moment)
        return ran(self.program, self.calls[:moment])

    def copy(self):
        """An equal Kept by itself."""
        other = Kept(self.program, self.spare)
        other.calls = self.calls
        other.wanted = self.wanted
        other._deeds = self._deeds
        other._state = self._state
        other._births = self._births
        other._let_go_at = self._let_go_at
        other._remember(self._memory, self._newest)
        return other


def kept_of(program, spare, calls):
    """The Kept behind these calls; NoProgram, BadSpare, BadCalls."""
    kept = Kept(program, spare)
    for call, outcome in zip(calls, done_calls(program, calls)):
        kept._take(call, outcome)
    return kept
