"""What the document's words mean of any value, for all modules that take values in."""

from everymoment.errors import BadMoment, BadNumbers, BadSpare, BadWay, NoDoor, NoField

LEAST_NUMBER = -9999
MOST_NUMBER = 9999
MOST_WAY_FIELDS = 200
MOST_SPARE = 8


def is_integer(value):
    """Whether any value is an integer: True and False are none."""
    return isinstance(value, int) and not isinstance(value, bool)


def is_whole(value):
    """Whether any value is an integer from 0 on."""
    return is_integer(value) and value >= 0


def is_between(value, least, most):
    """Whether any value is an integer from least to most."""
    return is_integer(value) and least <= value <= most


def is_number(value):
    """Whether any value is a NUMBER."""
    return is_between(value, LEAST_NUMBER, MOST_NUMBER)


def is_cell(value, word, many):
    """Whether any value is what a field may hold: a NUMBER, or (word, k), k an integer from 0 to many - 1."""
    if isinstance(value, tuple):
        return len(value) == 2 and value[0] == word and is_between(value[1], 0, many - 1)
    return is_number(value)


def are_cells(values, size, word, many):
    """Whether any value is a tuple of this size of what fields may hold."""
    return isinstance(values, tuple) and len(values) == size and all([is_cell(value, word, many) for value in values])


def is_ascending(numbers):
    """Whether each integer is greater than the one ahead."""
    return all([number < later for number, later in zip(numbers, numbers[1:])])


def check_numbers(numbers, many):
    """BadNumbers(numbers) unless they are a tuple of so many NUMBERS."""
    if not isinstance(numbers, tuple) or len(numbers) != many or not all([is_number(number) for number in numbers]):
        raise BadNumbers(numbers)


def check_door(program, name):
    """NoDoor(name) unless it is a DOOR of the program."""
    if name not in program.doors:
        raise NoDoor(name)


def check_field(program, name):
    """NoField(name) unless it is a FIELD of the program."""
    if name not in program.fields:
        raise NoField(name)


def is_way(program, value):
    """Whether any value is a WAY of the program."""
    if not isinstance(value, tuple) or not 1 <= len(value) <= 1 + MOST_WAY_FIELDS:
        return False
    return value[0] in program.doors and all([name in program.fields for name in value[1:]])


def check_way(program, way):
    """BadWay(way) unless it is a WAY of the program."""
    if not is_way(program, way):
        raise BadWay(way)


def check_spare(spare):
    """BadSpare(spare) unless it is a SPARE."""
    if spare is not None and not is_between(spare, 0, MOST_SPARE):
        raise BadSpare(spare)


def check_moment(wanted, moment):
    """BadMoment(moment) unless it is one of those wanted."""
    if not is_integer(moment) or moment not in wanted:
        raise BadMoment(moment)
