"""What a Kept tells of many moments: what something held when, what changed, and which moments are alike."""

from everymoment.errors import BadValue, NoRecord
from everymoment.keeping import copies_asked
from everymoment.kinds import check_field, check_moment, check_way, is_integer, is_number, is_whole
from everymoment.memories import plain_values, told_value


def is_value(value):
    """Whether any value is a VALUE."""
    if isinstance(value, tuple):
        return len(value) == 2 and value[0] == "record" and is_whole(value[1])
    return is_number(value)


def turns(pairs):
    """Of (moment, VALUE) pairs the first one, and each that has another VALUE than the one ahead."""
    return tuple([pair for at, pair in enumerate(pairs) if at == 0 or pair[1] != pairs[at - 1][1]])


def history(kept, record, field):
    """(moment, VALUE) for each moment at which a field of a record came to hold another VALUE; NoRecord, NoField."""
    if not is_integer(record):
        raise NoRecord(record)
    numbers = [(moment, copies_asked(kept, moment).get(record)) for moment in kept.wanted]
    asked = [(moment, number) for moment, number in numbers if number is not None]
    if not asked:
        raise NoRecord(record)
    check_field(kept.program, field)
    return turns([(moment, told_value(kept.program, kept.memory(), number, field, moment))
                  for moment, number in asked])


def door_history(kept, door):
    """(moment, VALUE) for each moment at which a door came to hold another VALUE; NoDoor."""
    return turns([(moment, kept.door_at(moment, door)) for moment in kept.wanted])


def row_end(kept, moments, record, field):
    """The last one of moments that, from the first one on, all have the record, with one VALUE in the field."""
    found = moments[0]
    value = kept.field_at(found, record, field)
    for moment in moments[1:]:
        number = copies_asked(kept, moment).get(record)
        if number is None or told_value(kept.program, kept.memory(), number, field, moment) != value:
            return found
        found = moment
    return found


def since(kept, moment, record, field):
    """The moment from which on a field has held what it holds at this moment; BadMoment, NoRecord, NoField."""
    check_moment(kept.wanted, moment)
    return row_end(kept, [elder for elder in kept.wanted if elder <= moment][::-1], record, field)


def until(kept, moment, record, field):
    """The moment up to which a field holds what it holds at this moment; BadMoment, NoRecord, NoField."""
    check_moment(kept.wanted, moment)
    return row_end(kept, [later for later in kept.wanted if later >= moment], record, field)


def when(kept, way, value):
    """(first, last) of each longest row of moments at which a WAY reads this VALUE, or None; BadWay, BadValue."""
    check_way(kept.program, way)
    if value is not None and not is_value(value):
        raise BadValue(value)
    rows = []
    elder_reads = False
    for moment in kept.wanted:
        reads = kept.read_at(moment, way) == value
        if reads:
            first = rows.pop()[0] if elder_reads else moment
            rows.append((first, moment))
        elder_reads = reads
    return tuple(rows)


def standing_at(kept, moment):
    """(doors, rows): the VALUES that stand at a moment, rows by the records that can be asked then."""
    doors, rows = plain_values(kept.program, kept.memory(), moment, list(copies_asked(kept, moment).items()))
    return (doors, dict(rows))


def changes_between(program, one, other):
    """What is unlike in two (doors, rows), told from the first one to the other one."""
    found = [("door", name, value, held) for name, value, held in zip(program.doors, one[0], other[0]) if value != held]
    rows = one[1]
    other_rows = other[1]
    for record in sorted(set(list(rows) + list(other_rows))):
        if record not in rows:
            found.append(("made", record))
        elif record not in other_rows:
            found.append(("gone", record))
        else:
            found.extend([("field", record, name, value, held)
                          for name, value, held in zip(program.fields, rows[record], other_rows[record])
                          if value != held])
    return tuple(found)


def changes(kept, one, other):
    """What is unlike at two moments, told from the first one to the other one; BadMoment."""
    check_moment(kept.wanted, one)
    check_moment(kept.wanted, other)
    return changes_between(kept.program, standing_at(kept, one), standing_at(kept, other))


def alike_moments(kept):
    """The moments, those with one SHAPE side by side."""
    found = {}
    for moment in kept.wanted:
        found.setdefault(kept.shape_at(moment), []).append(moment)
    return tuple([tuple(moments) for moments in found.values()])
