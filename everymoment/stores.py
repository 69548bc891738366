"""The plain machine: it does calls, and knows the present alone."""

from everymoment.errors import BadCalls, BadMany, BadNumbers, Fault, NoPart, NoRecord
from everymoment.kinds import LEAST_NUMBER, MOST_NUMBER, check_door, check_field, check_numbers, check_way, is_between
from everymoment.texts import LETTERS, check_program

MOST_RECORDS = 200
MOST_STEPS = 2000

# A state is what stands at a moment: (doors, rows), the tuple of the VALUES of the doors, in sequence, and the
# tuple with, for each record, the tuple of the VALUES of its fields, in sequence. As no state is ever changed,
# the elder ones can be kept, and a call that faults leaves nothing behind.


class Run:
    """A call that is under way: what it has told and done so far, and what stands by that."""

    def __init__(self, program, state):
        doors, rows = state
        self.program = program
        self.doors = dict(zip(program.doors, doors))
        self.rows = list(rows)
        self.told = []
        # What was done to doors and records, one behind another: ("new", record), and, where another VALUE came to
        # be held, ("set", record, field, VALUE) and ("put", door, VALUE).
        self.deeds = []
        self.steps = 0
        self.now = 0

    def step_to(self, number):
        """Comes to the statement on the line with this number; Fault(number) if that is a step too many."""
        self.now = number
        self.steps += 1
        if self.steps > MOST_STEPS:
            raise Fault(number)

    def worth(self, frame, word):
        """The VALUE of a V, the locals being those in frame."""
        if word in self.doors:
            return self.doors[word]
        if word[0] in LETTERS:
            return frame.get(word, 0)
        return int(word)

    def record(self, frame, word):
        """The number of the record that a V is; Fault if it is a NUMBER."""
        value = self.worth(frame, word)
        if isinstance(value, int):
            raise Fault(self.now)
        return value[1]

    def number(self, frame, word):
        """The NUMBER that a V is; Fault if it is a record."""
        value = self.worth(frame, word)
        if isinstance(value, tuple):
            raise Fault(self.now)
        return value

    def put(self, frame, word, value):
        """Makes an X this VALUE."""
        if word not in self.doors:
            frame[word] = value
        elif self.doors[word] != value:
            self.doors[word] = value
            self.deeds.append(("put", word, value))

    def make(self):
        """A new record; Fault if it is one too many."""
        record = len(self.rows)
        if record == MOST_RECORDS:
            raise Fault(self.now)
        self.rows.append((0,) * len(self.program.fields))
        self.deeds.append(("new", record))
        return ("record", record)

    def write(self, record, field, value):
        """Makes a field of a record this VALUE."""
        row = self.rows[record]
        at = self.program.fields.index(field)
        if row[at] != value:
            self.rows[record] = row[:at] + (value,) + row[at + 1:]
            self.deeds.append(("set", record, field, value))

    def state(self):
        """What stands now."""
        return (tuple([self.doors[name] for name in self.program.doors]), tuple(self.rows))


# Each of these does one statement of the table in the document; words are those of its line.


def do_new(run, frame, words):
    run.put(frame, words[1], run.make())


def do_get(run, frame, words):
    row = run.rows[run.record(frame, words[2])]
    run.put(frame, words[1], row[run.program.fields.index(words[3])])


def do_set(run, frame, words):
    run.write(run.record(frame, words[1]), words[2], run.worth(frame, words[3]))


def do_put(run, frame, words):
    run.put(frame, words[1], run.worth(frame, words[2]))


def do_add(run, frame, words):
    total = run.number(frame, words[2]) + run.number(frame, words[3])
    run.put(frame, words[1], max(LEAST_NUMBER, min(MOST_NUMBER, total)))


def do_less(run, frame, words):
    is_less = run.number(frame, words[2]) < run.number(frame, words[3])
    run.put(frame, words[1], 1 if is_less else 0)


def do_same(run, frame, words):
    is_same = run.worth(frame, words[2]) == run.worth(frame, words[3])
    run.put(frame, words[1], 1 if is_same else 0)


def do_kind(run, frame, words):
    is_link = isinstance(run.worth(frame, words[2]), tuple)
    run.put(frame, words[1], 1 if is_link else 0)


def do_tell(run, frame, words):
    run.told.append(run.worth(frame, words[1]))


def do_call(run, frame, words):
    do_part(run, words[1], [run.worth(frame, word) for word in words[2:]])


DOERS = {
    "new": do_new,
    "get": do_get,
    "set": do_set,
    "put": do_put,
    "add": do_add,
    "less": do_less,
    "same": do_same,
    "kind": do_kind,
    "tell": do_tell,
    "call": do_call,
}


def do_part(run, name, given):
    """Does a part to its end, its parameters holding the VALUES given."""
    first, last = run.program.part_at(name)
    frame = dict(zip(run.program.parameters[name], given))
    at = first + 1
    while at <= last:
        at = do_line(run, frame, at)


def do_line(run, frame, number):
    """Does the line with this number, and returns the number of the line that is come to behind it."""
    words = run.program.words[number - 1]
    jumps = run.program.jumps
    if words[0] in ("else", "end"):
        return jumps.get(number, number + 1)
    run.step_to(number)
    if words[0] in ("if", "while"):
        return jumps[number] if run.worth(frame, words[1]) == 0 else number + 1
    doer = DOERS[words[0]]
    doer(run, frame, words)
    return number + 1


def first_state(program):
    """What stands at moment 0."""
    return ((0,) * len(program.doors), ())


def done(program, state, name, numbers):
    """What a call brings about upon a state: (VALUES told, state behind it, deeds); NoPart, BadNumbers, Fault."""
    program.part_at(name)
    check_numbers(numbers, len(program.parameters[name]))
    run = Run(program, state)
    do_part(run, name, numbers)
    return (tuple(run.told), run.state(), tuple(run.deeds))


def done_calls(program, calls):
    """What each of CALLS brings about upon those ahead of it, as done tells it; NoProgram, BadCalls."""
    check_program(program)
    if not isinstance(calls, tuple):
        raise BadCalls(None)
    found = []
    state = first_state(program)
    for at, call in enumerate(calls):
        if not isinstance(call, tuple) or len(call) != 2:
            raise BadCalls(at)
        try:
            outcome = done(program, state, call[0], call[1])
        except (NoPart, BadNumbers, Fault):
            raise BadCalls(at) from None
        found.append(outcome)
        state = outcome[1]
    return found


def follow(program, state, way):
    """The VALUE that a WAY comes to in a state; None if a NUMBER is come to ahead of its end."""
    doors, rows = state
    value = doors[program.doors.index(way[0])]
    for name in way[1:]:
        if isinstance(value, int):
            return None
        value = rows[value[1]][program.fields.index(name)]
    return value


class Store:
    """What calls have made of doors and records. Stores are equal if programs and calls are."""

    def __init__(self, program):
        check_program(program)
        self.program = program
        self._stand([first_state(program)], ())

    def __len__(self):
        return len(self.calls)

    def __eq__(self, other):
        return isinstance(other, Store) and self.program == other.program and self.calls == other.calls

    def _stand(self, states, calls):
        """Stands where these calls have led, states being what stood at each moment from 0 on."""
        self._states = states
        self.calls = calls
        self.moment = len(calls)
        self.records = len(states[-1][1])

    def call(self, name, numbers):
        """Does a part, and returns the VALUES told; NoPart, BadNumbers, Fault."""
        told, state, _ = done(self.program, self._states[-1], name, numbers)
        self._stand(self._states + [state], self.calls + ((name, numbers),))
        return told

    def door(self, name):
        """The VALUE of a door; NoDoor."""
        check_door(self.program, name)
        return follow(self.program, self._states[-1], (name,))

    def field(self, record, name):
        """The VALUE of a field of a record; NoRecord, NoField."""
        if not is_between(record, 0, self.records - 1):
            raise NoRecord(record)
        check_field(self.program, name)
        return self._states[-1][1][record][self.program.fields.index(name)]

    def read(self, way):
        """The VALUE that a way comes to, or None; BadWay."""
        check_way(self.program, way)
        return follow(self.program, self._states[-1], way)

    def back(self, many):
        """Undoes the last so many calls; BadMany."""
        if not is_between(many, 1, self.moment):
            raise BadMany(many)
        self._stand(self._states[:-many], self.calls[:-many])

    def copy(self):
        """An equal Store by itself."""
        other = Store(self.program)
        other._stand(self._states, self.calls)
        return other


def state_of(store):
    """What stands in a Store now."""
    return store._states[-1]


def ran(program, calls):
    """A Store that did these calls; NoProgram, BadCalls."""
    outcomes = done_calls(program, calls)
    store = Store(program)
    store._stand([first_state(program)] + [outcome[1] for outcome in outcomes], calls)
    return store


def writes(program, calls):
    """(moment, record, field, VALUE) of each set that changed what a field holds; NoProgram, BadCalls."""
    found = []
    for at, outcome in enumerate(done_calls(program, calls)):
        found.extend([(at + 1,) + deed[1:] for deed in outcome[2] if deed[0] == "set"])
    return tuple(found)
