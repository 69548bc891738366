"""What the document's words mean of any value, for all modules that take values in."""

from everymoment.errors import BadNumbers, BadWay, NoDoor, NoField

LEAST_NUMBER = -9999
MOST_NUMBER = 9999
MOST_WAY_FIELDS = 200


def is_integer(value):
    """Whether any value is an integer: True and False are none."""
    return isinstance(value, int) and not isinstance(value, bool)


def is_between(value, least, most):
    """Whether any value is an integer from least to most."""
    return is_integer(value) and least <= value <= most


def is_number(value):
    """Whether any value is a NUMBER."""
    return is_between(value, LEAST_NUMBER, MOST_NUMBER)


def check_numbers(numbers, many):
    """BadNumbers(numbers) unless they are a tuple of so many NUMBERS."""
    if not isinstance(numbers, tuple) or len(numbers) != many or not all([is_number(number) for number in numbers]):
        raise BadNumbers(numbers)


def check_door(program, name):
    """NoDoor(name) unless it is a DOOR of the program."""
    if name not in program.doors:
        raise NoDoor(name)


def check_field(program, name):
    """NoField(name) unless it is a FIELD of the program."""
    if name not in program.fields:
        raise NoField(name)


def check_way(program, way):
    """BadWay(way) unless it is a WAY of the program."""
    if not isinstance(way, tuple) or not 1 <= len(way) <= 1 + MOST_WAY_FIELDS:
        raise BadWay(way)
    if way[0] not in program.doors or not all([name in program.fields for name in way[1:]]):
        raise BadWay(way)
