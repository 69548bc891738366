"""Towers: programs that come as near to the bound of copies as one likes, or pass every one."""

from everymoment.errors import BadLevels, BadMany, BadShare, BadSpare, BadTower
from everymoment.kinds import MOST_SPARE, is_between, is_whole
from everymoment.texts import Program

MOST_LINKS = 4
MOST_TOWER_LEVELS = 6
MOST_TOWER_RECORDS = 60
MOST_POKES = 400
MOST_LEVELS = 1000
MOST_UP = 200
MOST_DOWN = 1000


def check_links(p):
    """BadTower(p) unless there are towers in which so many fields link to a record."""
    if not is_between(p, 1, MOST_LINKS):
        raise BadTower(p)


def check_levels(levels):
    """BadLevels(levels) unless it is a number of levels that can be counted with."""
    if not is_between(levels, 1, MOST_LEVELS):
        raise BadLevels(levels)


def check_some_spare(spare):
    """BadSpare(spare) unless it is a SPARE that is a number."""
    if not is_between(spare, 0, MOST_SPARE):
        raise BadSpare(spare)


def level_sizes(p, levels):
    """How many records there are on each level."""
    sizes = [1]
    while len(sizes) < levels:
        sizes.append(sizes[-1] * p)
    return sizes


def tower(p, levels):
    """The Program that builds a tower of p and levels, and pokes its lowest record; BadTower."""
    check_links(p)
    if not is_between(levels, 1, MOST_TOWER_LEVELS):
        raise BadTower(levels)
    sizes = level_sizes(p, levels)
    if sum(sizes) > MOST_TOWER_RECORDS:
        raise BadTower((p, levels))
    rows = ["fields key up", "doors low", "part build", "new r0", "put low r0"]
    for number in range(1, sum(sizes)):
        rows.extend([f"new r{number}", f"set r{number} up r{(number - 1) // p}"])
    return Program("\n".join(rows + ["part poke n", "set low key n"]))


def tower_calls(many):
    """The CALLS that build a tower, and poke it so many times; BadMany."""
    if not is_between(many, 0, MOST_POKES):
        raise BadMany(many)
    return (("build", ()),) + tuple([("poke", (number,)) for number in range(1, many + 1)])


def builds(p, levels):
    """How many writes it takes to build a tower."""
    return sum(level_sizes(p, levels)) - 1


def tower_builds(p, levels):
    """How many writes it takes to build a tower of p and levels; BadTower, BadLevels."""
    check_links(p)
    check_levels(levels)
    return builds(p, levels)


def copies_of_pokes(p, spare, levels, many):
    """How many copies but first ones come of so many pokes."""
    found = 0
    for size in level_sizes(p, levels):
        # Each record of a level is copied behind so many writes: so it is for each one of the next level.
        many = many // (spare + 1)
        found += size * many
    return found


def tower_copies(p, spare, levels, many):
    """How many copies but first ones come of so many pokes; BadTower, BadSpare, BadLevels, BadMany."""
    check_links(p)
    check_some_spare(spare)
    check_levels(levels)
    if not is_whole(many):
        raise BadMany(many)
    return copies_of_pokes(p, spare, levels, many)


def check_beyond(p, spare, up, down):
    """BadTower, BadSpare, BadShare."""
    check_links(p)
    check_some_spare(spare)
    if not is_between(up, 0, MOST_UP):
        raise BadShare(up)
    if not is_between(down, 1, MOST_DOWN):
        raise BadShare(down)


def is_never_beyond(p, spare, up, down):
    """Whether no calls make more than up / down copies but first ones for each write."""
    return spare >= p and up * (spare - p + 1) >= down


def beyond(p, spare, up, down):
    """(levels, many) of a tower that makes more than up / down copies for each write, None if none does.

    BadTower, BadSpare, BadShare.
    """
    check_beyond(p, spare, up, down)
    if is_never_beyond(p, spare, up, down):
        return None
    levels = 0
    # How many pokes copy the highest level once, and how many copies these make in all.
    pokes = 1
    copies = 0
    size = 1
    while copies * down <= up * pokes:
        levels += 1
        copies = copies * (spare + 1) + size
        pokes = pokes * (spare + 1)
        size = size * p
    # So often that building the tower weighs less than what is gained by each time.
    times = up * builds(p, levels) // (copies * down - up * pokes) + 1
    return (levels, times * pokes)


def shows_beyond(p, spare, up, down, value):
    """Whether any value is right as what beyond tells; BadTower, BadSpare, BadShare."""
    check_beyond(p, spare, up, down)
    if value is None:
        return is_never_beyond(p, spare, up, down)
    if not isinstance(value, tuple) or len(value) != 2:
        return False
    levels, many = value
    if not is_between(levels, 1, MOST_LEVELS) or not is_whole(many):
        return False
    return copies_of_pokes(p, spare, levels, many) * down > up * (many + builds(p, levels))
