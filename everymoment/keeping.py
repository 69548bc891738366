"""The remembering machine: it does calls as the plain one does, and can be asked at all moments."""

from everymoment.errors import NoRecord
from everymoment.kinds import check_door, check_field, check_moment, check_spare, check_way, is_integer
from everymoment.leaving import check_moments, copies_at, needs_of, what_stays, with_present
from everymoment.memories import told_doors, told_inner, told_row, told_value, value_of
from everymoment.shapes import links_to, shape_from
from everymoment.stores import done, done_calls, first_state, ran
from everymoment.texts import check_program

# The MEMORY of a Kept, and all else that it holds, is made of tuples, which are never changed: so what it told, and
# its copies, stay as they are.


class Work:
    """What the deeds of the call by which a Kept comes to its next moment make of its MEMORY, and what they cost."""

    def __init__(self, kept):
        memory = kept.memory()
        doors, copies = memory
        self.fields = kept.program.fields
        self.spare = kept.spare
        self.moment = kept.moment + 1
        self.doors = dict(zip(kept.program.doors, doors))
        self.copies = list(copies)
        # For each record the number of its newest copy, None if it is freed; and what that copy tells now.
        self.newest = list(kept._newest)
        self.told = [() if at is None else told_row(kept.program, copies[at], self.moment) for at in self.newest]
        # For each record how many fields of records that aren't freed link to it.
        self.linkers = links_to([[value_of(memory, inner) for inner in row] for row in self.told])
        # The fields that are to be led: (record, field, the record that was copied).
        self.queue = []
        self.written, self.copied, self.led, self.most_linkers = kept._costs

    def do(self, deed):
        """Does one deed, of those that done tells."""
        if deed[0] == "new":
            self.make()
        elif deed[0] == "put":
            self.put(deed[1], self.inner(deed[2]))
        else:
            self.count_write(deed[1], deed[2], deed[3])
            self.write(deed[1], deed[2], self.inner(deed[3]))
            self.lead()

    def count_write(self, record, field, value):
        """Counts a write of the program's own, and the links that there are by it."""
        self.written += 1
        elder = self.told[record][self.fields.index(field)]
        if isinstance(elder, tuple):
            self.linkers[self.copies[elder[1]][0]] -= 1
        if isinstance(value, tuple):
            self.linkers[value[1]] += 1
            self.most_linkers = max(self.most_linkers, self.linkers[value[1]])

    def inner(self, value):
        """The INNER of a VALUE."""
        return ("copy", self.newest[value[1]]) if isinstance(value, tuple) else value

    def make(self):
        """Makes the first copy of a new record."""
        contents = (0,) * len(self.fields)
        self.newest.append(len(self.copies))
        self.told.append(contents)
        self.linkers.append(0)
        self.copies.append((len(self.newest) - 1, self.moment, contents, ()))

    def put(self, door, inner):
        """Puts a door."""
        lines = self.doors[door]
        if lines[-1][0] == self.moment:
            lines = lines[:-1]
        self.doors[door] = lines + ((self.moment, inner),)

    def write(self, record, field, inner):
        """Writes a field of a record, by the first of the four rules that applies."""
        number = self.newest[record]
        _, made, contents, lines = self.copies[number]
        at = self.fields.index(field)
        elder = self.told[record]
        told = elder[:at] + (inner,) + elder[at + 1:]
        self.told[record] = told
        line = (self.moment, field, inner)
        if made == self.moment:
            self.copies[number] = (record, made, told, lines)
        elif line[:2] in [held[:2] for held in lines]:
            changed = [line if held[:2] == line[:2] else held for held in lines]
            self.copies[number] = (record, made, contents, tuple(changed))
        elif self.spare is None or len(lines) < self.spare:
            self.copies[number] = (record, made, contents, lines + (line,))
        else:
            self.make_another(record)

    def make_another(self, record):
        """Makes a new copy of a record, of what is told of it now, and leads to it all that leads to the elder one."""
        elder = ("copy", self.newest[record])
        newer = ("copy", len(self.copies))
        self.newest[record] = len(self.copies)
        self.copies.append((record, self.moment, self.told[record], ()))
        for door in list(self.doors):
            if self.doors[door][-1][1] == elder:
                self.put(door, newer)
        leading = [(linking, field, record) for linking, row in enumerate(self.told) if elder in row
                   for field, inner in zip(self.fields, row) if inner == elder]
        self.queue.extend(leading)
        self.copied += 1
        self.led += len(leading)

    def lead(self):
        """Writes all fields that are to be led, and those that are to be led by that."""
        while self.queue:
            linking, field, record = self.queue.pop(0)
            self.write(linking, field, ("copy", self.newest[record]))

    def memory(self):
        """The MEMORY as it is now."""
        return (tuple(self.doors.values()), tuple(self.copies))

    def costs(self):
        """(writes, copies but first ones, fields led, most fields that linked to one record), all so far."""
        return (self.written, self.copied, self.led, self.most_linkers)


class Kept:
    """A machine that remembers. Kepts are equal if programs, spares and deeds are."""

    def __init__(self, program, spare):
        check_program(program)
        check_spare(spare)
        self.program = program
        self.spare = spare
        self.calls = ()
        self.wanted = (0,)
        self._deeds = ()
        self._state = first_state(program)
        self._costs = (0, 0, 0, 0)
        # The moment at which let_go was done last, -1 if it never was.
        self._let_go_at = -1
        self._remember(((((0, 0),),) * len(program.doors), ()), ())

    def __len__(self):
        return len(self.calls)

    def __eq__(self, other):
        return (isinstance(other, Kept) and self.program == other.program and self.spare == other.spare
                and self._deeds == other._deeds)

    def _remember(self, memory, newest):
        """Holds this MEMORY; newest tells for each record the number of its newest copy, None if it is freed."""
        self._memory = memory
        self._newest = newest
        self.moment = len(self.calls)
        self.records = len(newest)
        self.copies = len(memory[1])

    def _take(self, call, outcome):
        """Takes a call that can be done, by what done tells of it."""
        _, state, deeds = outcome
        work = Work(self)
        for deed in deeds:
            work.do(deed)
        self.calls = self.calls + (call,)
        self.wanted = self.wanted + (work.moment,)
        self._deeds = self._deeds + (("call", call),)
        self._state = state
        self._costs = work.costs()
        self._remember(work.memory(), tuple(work.newest))

    def call(self, name, numbers):
        """Does a part, and returns the VALUES told; NoPart, BadNumbers, Fault."""
        outcome = done(self.program, self._state, name, numbers)
        self._take((name, numbers), outcome)
        return outcome[0]

    def let_go(self, moments):
        """Lets go of all that is read neither at these moments nor at the present one; BadMoments."""
        check_moments(self, moments)
        wanted = with_present(self, moments)
        present = copies_at(self.program, self._memory, self.moment)
        memory, numbers = what_stays(self._memory, needs_of(self.program, self._memory, wanted))
        self.wanted = wanted
        self._deeds = self._deeds + (("let_go", moments),)
        self._let_go_at = self.moment
        self._remember(memory, tuple([numbers[number] if number in present else None for number in self._newest]))

    def memory(self):
        """The MEMORY: (doors, copies)."""
        return self._memory

    def read_at(self, moment, way):
        """What a WAY reads at a moment; BadMoment, BadWay."""
        check_moment(self.wanted, moment)
        check_way(self.program, way)
        return value_of(self._memory, told_inner(self.program, self._memory, moment, way))

    def door_at(self, moment, door):
        """The VALUE that a door held at a moment; BadMoment, NoDoor."""
        check_moment(self.wanted, moment)
        check_door(self.program, door)
        return value_of(self._memory, told_inner(self.program, self._memory, moment, (door,)))

    def copy_at(self, moment, record):
        """The number of the copy that was the newest one of a record at a moment; BadMoment, NoRecord."""
        check_moment(self.wanted, moment)
        asked = copies_asked(self, moment)
        if not is_integer(record) or record not in asked:
            raise NoRecord(record)
        return asked[record]

    def field_at(self, moment, record, field):
        """The VALUE that a field of a record held at a moment; BadMoment, NoRecord, NoField."""
        number = self.copy_at(moment, record)
        check_field(self.program, field)
        return told_value(self.program, self._memory, number, field, moment)

    def shape_at(self, moment):
        """The SHAPE at a moment; BadMoment."""
        check_moment(self.wanted, moment)
        copies = self._memory[1]
        return shape_from(self.program, told_doors(self._memory, moment),
                          lambda number: told_row(self.program, copies[number], moment))

    def store_at(self, moment):
        """A Store that has done the calls up to a moment; BadMoment."""
        check_moment(self.wanted, moment)
        return ran(self.program, self.calls[:moment])

    def copy(self):
        """An equal Kept by itself."""
        other = Kept(self.program, self.spare)
        other.calls = self.calls
        other.wanted = self.wanted
        other._deeds = self._deeds
        other._state = self._state
        other._costs = self._costs
        other._let_go_at = self._let_go_at
        other._remember(self._memory, self._newest)
        return other


def copies_asked(kept, moment):
    """For each record that can be asked at a moment of a Kept, the number of the copy that was its newest one then."""
    copies = kept.memory()[1]
    if moment <= kept._let_go_at:
        return {copies[number][0]: number for number in copies_at(kept.program, kept.memory(), moment)}
    # Of a record that isn't freed, the newest copy that there was at the last letting go, and all later ones, are
    # there: so it was made by this moment just if it has a copy that was.
    return {record: number for number, (record, made, _, _) in enumerate(copies)
            if made <= moment and kept._newest[record] is not None}


def costs_of(kept):
    """(writes, copies but first ones, fields led, most fields that linked to one record) of a Kept, all so far."""
    return kept._costs


def has_let_go(kept):
    """Whether a Kept ever let go, of whatever."""
    return kept._let_go_at >= 0


def newest_copies(kept):
    """The newest copies of all records of a Kept that aren't freed."""
    copies = kept.memory()[1]
    return [copies[number] for number in kept._newest if number is not None]


def kept_behind(program, spare, calls, outcomes):
    """The Kept behind CALLS, these being what done_calls tells of them."""
    kept = Kept(program, spare)
    for call, outcome in zip(calls, outcomes):
        kept._take(call, outcome)
    return kept


def kept_of(program, spare, calls):
    """The Kept behind these calls; NoProgram, BadSpare, BadCalls."""
    check_program(program)
    check_spare(spare)
    return kept_behind(program, spare, calls, done_calls(program, calls))
