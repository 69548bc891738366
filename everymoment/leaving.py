"""Letting go: what is needed to read some moments as they are read now, and what all else leaves behind."""

from everymoment.errors import BadMoments, NotNeeded
from everymoment.kinds import is_ascending, is_integer, is_way
from everymoment.memories import copy_line_at, door_line_at, told_doors, told_inner, told_row
from everymoment.shapes import ways_from


def check_moments(kept, moments):
    """BadMoments(moments) unless they are an ascending tuple of moments that can be asked."""
    if not isinstance(moments, tuple) or not all([is_integer(moment) for moment in moments]):
        raise BadMoments(moments)
    if not is_ascending(moments) or not all([moment in kept.wanted for moment in moments]):
        raise BadMoments(moments)


def copies_at(program, memory, moment):
    """For each copy of which something is read at a moment, by its number: the first one of the shortest WAYS to it."""
    copies = memory[1]
    return ways_from(program, told_doors(memory, moment), lambda number: told_row(program, copies[number], moment))


def needs_of(program, memory, moments):
    """The NEEDS with all that is read at one of these moments or at several."""
    doors, copies = memory
    door_lines = []
    contents = []
    lines = []
    for moment in moments:
        door_lines.extend([(at, door_line_at(held, moment)) for at, held in enumerate(doors)])
        for number in copies_at(program, memory, moment):
            found = [copy_line_at(copies[number], field, moment) for field in program.fields]
            contents.extend([(number, at) for at, line in enumerate(found) if line is None])
            lines.extend([(number, line) for line in found if line is not None])
    return (tuple(sorted(set(door_lines))), tuple(sorted(set(contents))), tuple(sorted(set(lines))))


def copies_of(needs):
    """The ascending tuple of the copies of which something is needed."""
    _, contents, lines = needs
    return tuple(sorted(set([number for number, _ in contents + lines])))


def with_present(kept, moments):
    """The ascending tuple of moments that can be asked, and the present one."""
    return moments if kept.moment in moments else moments + (kept.moment,)


def renumbered(inner, numbers):
    """The INNER that one becomes if copies bear these numbers."""
    return ("copy", numbers[inner[1]]) if isinstance(inner, tuple) else inner


def door_left(lines, stay, numbers):
    """The lines of a door of which only those with these numbers are needed."""
    # The first line stays in any case; as no call leads to moment 0, it is (0, 0), read or not.
    held = [line for at, line in enumerate(lines) if at == 0 or at in stay]
    return tuple([(moment, renumbered(inner, numbers)) for moment, inner in held])


def copy_left(copy, contents_stay, lines_stay, numbers):
    """A copy of which only contents of fields, and lines, with these numbers are needed."""
    record, made, contents, lines = copy
    inners = [renumbered(inner, numbers) if at in contents_stay else 0 for at, inner in enumerate(contents)]
    held = [line for at, line in enumerate(lines) if at in lines_stay]
    return (record, made, tuple(inners), tuple([(moment, field, renumbered(inner, numbers))
                                                for moment, field, inner in held]))


def grouped(pairs):
    """For each first one of pairs the list of those that stand behind it."""
    found = {}
    for first, second in pairs:
        found.setdefault(first, []).append(second)
    return found


def what_stays(memory, needs):
    """(the MEMORY that has just what is needed, for each copy of it that stays the number that it has there)."""
    doors, copies = memory
    door_lines, contents, lines = [grouped(pairs) for pairs in needs]
    numbers = {number: at for at, number in enumerate(copies_of(needs))}
    doors_left = [door_left(held, door_lines.get(at, []), numbers) for at, held in enumerate(doors)]
    copies_left = [copy_left(copies[number], contents.get(number, []), lines.get(number, []), numbers)
                   for number in numbers]
    return ((tuple(doors_left), tuple(copies_left)), numbers)


def needed(kept, moments):
    """The NEEDS with all of a Kept that is read at one of these moments or at several; BadMoments."""
    check_moments(kept, moments)
    return needs_of(kept.program, kept.memory(), moments)


def needed_copies(kept, moments):
    """The copies of a Kept of which something is read at one of these moments; BadMoments."""
    return copies_of(needed(kept, moments))


def check_needed(kept, moments, copy):
    """NotNeeded(copy) unless it is one of needed_copies; BadMoments."""
    copies = needed_copies(kept, moments)
    if not is_integer(copy) or copy not in copies:
        raise NotNeeded(copy)


def witness(kept, moments, copy):
    """(moment, way): one of these moments, and a WAY that leads to this copy then; BadMoments, NotNeeded."""
    check_needed(kept, moments, copy)
    memory = kept.memory()
    for moment in moments:
        ways = copies_at(kept.program, memory, moment)
        if copy in ways:
            return (moment, ways[copy])
    return None


def shows_witness(kept, moments, copy, value):
    """Whether any value is right as what witness tells of a copy; BadMoments, NotNeeded."""
    check_needed(kept, moments, copy)
    if not isinstance(value, tuple) or len(value) != 2:
        return False
    moment, way = value
    if not is_integer(moment) or moment not in moments or not is_way(kept.program, way):
        return False
    return told_inner(kept.program, kept.memory(), moment, way) == ("copy", copy)


def left(kept, moments):
    """(copies, lines): how many there would be behind letting go of all moments but these; BadMoments."""
    check_moments(kept, moments)
    needs = needs_of(kept.program, kept.memory(), with_present(kept, moments))
    return (len(copies_of(needs)), len(needs[2]))
