"""A second reading of point 13: what each moment reads is what the calls of its path do, done anew."""

from reference import Machine
from remembering import differences


class Wood:
    """Moments with their parents and calls, and what stands at each, told by the records of the whole wood."""

    def __init__(self, program):
        self.program = program
        self.parents, self.calls, self.names, self.states, self.records = [None], [None], [[]], [], 0
        self.states.append(self.named(Machine(program.text).state(), []))

    @staticmethod
    def value(value, names):
        return ('record', names[value[1]]) if isinstance(value, tuple) else value

    def named(self, state, names):
        """(doors, {record: row}) of what a Machine holds."""
        doors, rows = state
        return ([self.value(value, names) for value in doors],
                {name: [self.value(value, names) for value in row] for name, row in zip(names, rows)})

    def path(self, moment):
        return ([] if moment == 0 else self.path(self.parents[moment])) + [moment]

    def call(self, moment, name, numbers):
        """What the call tells; reference.Broken(line)."""
        machine = Machine(self.program.text)
        for elder in self.path(moment)[1:]:
            machine.call(*self.calls[elder])
        told = machine.call(name, numbers)
        made = len(machine.things) - len(self.names[moment])
        names = self.names[moment] + [self.records + at for at in range(made)]
        self.records += made
        self.parents.append(moment)
        self.calls.append((name, numbers))
        self.names.append(names)
        self.states.append(self.named(machine.state(), names))
        return tuple(self.value(value, names) for value in told)

    def stretch(self, moment):
        """The moment and all that came of it, in the sequence of the list."""
        children = [child for child, parent in enumerate(self.parents) if parent == moment]
        return [moment] + [passed for child in children[::-1] for passed in self.stretch(child)]

    def birth(self, record):
        return [moment for moment, names in enumerate(self.names) if record in names][0]

    def lines(self, moments, held):
        """The lines of what is held at moments of the list."""
        return tuple((moment, held(moment)) for at, moment in enumerate(moments)
                     if at == 0 or held(moment) != held(moments[at - 1]))

    def record_lines(self, record, field):
        at = self.program.fields.index(field)
        return self.lines(self.stretch(self.birth(record)), lambda moment: self.states[moment][1][record][at])

    def door_lines(self, door):
        at = self.program.doors.index(door)
        return self.lines(self.stretch(0), lambda moment: self.states[moment][0][at])

    def all_lines(self):
        return (sum(len(self.door_lines(door)) for door in self.program.doors)
                + sum(len(self.record_lines(record, field)) for record in range(self.records)
                      for field in self.program.fields))

    def changes(self, one, other):
        return differences(self.program, self.states[one], self.states[other], self.names[one], self.names[other])
