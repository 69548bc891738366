"""Shapes: all that ways can tell of a store."""

from everymoment.errors import BadShape, NoRecord
from everymoment.kinds import are_cells, check_way, is_between, is_way
from everymoment.stores import MOST_RECORDS, follow, state_of
from everymoment.texts import check_program


def meet(ways, queue, value, way):
    """Notes the way to what a link leads to, if that was not met yet."""
    if isinstance(value, tuple) and value[1] not in ways:
        ways[value[1]] = way
        queue.append(value[1])


def ways_from(program, doors, row_of):
    """For each number that doors, or fields behind them, link to, as it is met: the first of its shortest WAYS.

    doors are what the doors hold, row_of(number) is what the fields of the record, or copy, with this number hold.
    """
    ways = {}
    queue = []
    for name, value in zip(program.doors, doors):
        meet(ways, queue, value, (name,))
    while queue:
        number = queue.pop(0)
        for name, value in zip(program.fields, row_of(number)):
            meet(ways, queue, value, ways[number] + (name,))
    return ways


def shape_from(program, doors, row_of):
    """The SHAPE of what doors, and fields behind them, hold; these as for ways_from."""
    met = list(ways_from(program, doors, row_of))
    numbers = {number: at for at, number in enumerate(met)}
    rows = [numbered_anew(row_of(number), numbers) for number in met]
    return (numbered_anew(doors, numbers), tuple(rows))


def numbered_anew(values, numbers):
    """The VALUES that these ones become if the records that they link to bear these numbers."""
    return tuple([("record", numbers[value[1]]) if isinstance(value, tuple) else value for value in values])


def ways_in(program, state):
    """For each record that is come to in a state, or in a SHAPE: the first one of its shortest WAYS."""
    doors, rows = state
    return ways_from(program, doors, lambda number: rows[number])


def come_to(store):
    """The numbers of the records of a Store that some WAY reads."""
    return tuple(sorted(ways_in(store.program, state_of(store))))


def shape_in(program, state):
    """The SHAPE of a state."""
    doors, rows = state
    return shape_from(program, doors, lambda number: rows[number])


def shape(store):
    """The SHAPE of a Store."""
    return shape_in(store.program, state_of(store))


def links_to(rows):
    """For each record how many fields link to it, rows being the VALUES of the fields of each."""
    many = [0] * len(rows)
    for row in rows:
        for value in row:
            if isinstance(value, tuple):
                many[value[1]] += 1
    return many


def linkers(store):
    """For each record of a Store, how many fields link to it."""
    return tuple(links_to(state_of(store)[1]))


def is_shape(program, value):
    """Whether any value is a SHAPE of the program."""
    check_program(program)
    if not isinstance(value, tuple) or len(value) != 2:
        return False
    doors, rows = value
    if not isinstance(rows, tuple) or len(rows) > MOST_RECORDS:
        return False
    many = len(rows)
    if not are_cells(doors, len(program.doors), "record", many):
        return False
    if not all([are_cells(row, len(program.fields), "record", many) for row in rows]):
        return False
    return list(ways_in(program, value)) == list(range(many))


def check_shape(program, value):
    """BadShape(value) unless it is a SHAPE of the program."""
    if not is_shape(program, value):
        raise BadShape(value)


def shape_read(program, shape, way):
    """What a WAY reads in a SHAPE; NoProgram, BadShape, BadWay."""
    check_shape(program, shape)
    check_way(program, way)
    return follow(program, shape, way)


def way_to(program, shape, number):
    """The first one of the shortest WAYS to a row of a SHAPE; NoProgram, BadShape, NoRecord."""
    check_shape(program, shape)
    if not is_between(number, 0, len(shape[1]) - 1):
        raise NoRecord(number)
    return ways_in(program, shape)[number]


def first_unlike(program, one, other):
    """(WAY, VALUE in one, VALUE in the other) of the first place at which two SHAPES that are not equal are unlike."""
    rows = [(tuple([(name,) for name in program.doors]), one[0], other[0])]
    ways = ways_in(program, one)
    for number, (row, other_row) in enumerate(zip(one[1], other[1])):
        rows.append((tuple([ways[number] + (name,) for name in program.fields]), row, other_row))
    for row_ways, row, other_row in rows:
        for way, value, held in zip(row_ways, row, other_row):
            if value != held:
                return (way, value, held)
    return None


def parting(program, one, other):
    """A PARTING of two SHAPES, None if they are equal; NoProgram, BadShape."""
    check_shape(program, one)
    check_shape(program, other)
    if one == other:
        return None
    way, value, held = first_unlike(program, one, other)
    if isinstance(value, int) or isinstance(held, int):
        return ("read", way)
    # Ahead of this place both are alike. So of the two records that it links to, that with the lesser number was
    # met ahead of it, in both of them by the same WAY, which reads here in one of them what this place links to.
    return ("one", ways_in(program, one)[min(value[1], held[1])], way)


def is_parting(program, one, other, value):
    """Whether any value is a PARTING of two SHAPES."""
    if not isinstance(value, tuple) or not value or not all([is_way(program, way) for way in value[1:]]):
        return False
    told = [follow(program, one, way) for way in value[1:]]
    held = [follow(program, other, way) for way in value[1:]]
    if value[0] == "read" and len(told) == 1:
        return told != held and not (isinstance(told[0], tuple) and isinstance(held[0], tuple))
    if value[0] == "one" and len(told) == 2:
        are_records = all([isinstance(record, tuple) for record in told + held])
        return are_records and (told[0] == told[1]) != (held[0] == held[1])
    return False


def shows_parting(program, one, other, value):
    """Whether any value is right as what parting tells of two SHAPES; NoProgram, BadShape."""
    check_shape(program, one)
    check_shape(program, other)
    if value is None:
        return one == other
    return is_parting(program, one, other, value)
