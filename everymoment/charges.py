"""Charges: what remembering costs, and by which writes of the program each copy is paid for."""

from everymoment.errors import BadPrice, NoCharge
from everymoment.keeping import costs_of, has_let_go, kept_behind, newest_copies
from everymoment.kinds import MOST_SPARE, check_spare, is_ascending, is_between, is_integer
from everymoment.stores import done_calls, writes

MOST_PRICE = 1000


def written(kept):
    """How many writes there were so far."""
    return costs_of(kept)[0]


def copied(kept):
    """How many copies were made so far that were not the first of their record."""
    return costs_of(kept)[1]


def led(kept):
    """How many fields were led so far."""
    return costs_of(kept)[2]


def most_linkers(kept):
    """The most fields of records that weren't freed that linked to one record, behind any write so far."""
    return costs_of(kept)[3]


def share(kept):
    """How many writes there are for each copy but first ones; None if there need not be any, or no copy is made."""
    if kept.spare is None or kept.spare < most_linkers(kept):
        return None
    return kept.spare - most_linkers(kept) + 1


def bound(kept):
    """How many copies but first ones there can be at most; None if that can't be told."""
    if kept.spare is None:
        return 0
    many = share(kept)
    return None if many is None else written(kept) // many


def check_charges(kept):
    """NoCharge(None) if there is no bound, or anything was let go."""
    if bound(kept) is None or has_let_go(kept):
        raise NoCharge(None)


def later_copies(kept):
    """(number, moment) of each copy that is not the first one of its record, of a Kept that never let go."""
    copies = kept.memory()[1]
    firsts = {}
    for number, copy in enumerate(copies):
        firsts.setdefault(copy[0], number)
    return [(number, copy[1]) for number, copy in enumerate(copies) if firsts[copy[0]] != number]


def charges(kept):
    """A paper of charges; NoCharge."""
    check_charges(kept)
    many = share(kept)
    # At the end of each moment there are no more copies than the writes up to there pay for: so each one in turn
    # may take the next writes.
    return tuple([(number, tuple(range(at * many, at * many + many)))
                  for at, (number, _) in enumerate(later_copies(kept))])


def is_charge(value, copy, many, moments):
    """Whether any value is a part of a paper of charges: so many writes or more, for this copy.

    copy is (number, moment), moments are those of the writes.
    """
    if not isinstance(value, tuple) or len(value) != 2:
        return False
    number, numbers = value
    if not is_integer(number) or number != copy[0] or not isinstance(numbers, tuple) or len(numbers) < many:
        return False
    if not all([is_between(at, 0, len(moments) - 1) for at in numbers]) or not is_ascending(numbers):
        return False
    return all([moments[at] <= copy[1] for at in numbers])


def shows_charges(kept, value):
    """Whether any value is a paper of charges; NoCharge."""
    check_charges(kept)
    copies = later_copies(kept)
    if not isinstance(value, tuple) or len(value) != len(copies):
        return False
    moments = [write[0] for write in writes(kept.program, kept.calls)]
    if not all([is_charge(part, copy, share(kept), moments) for part, copy in zip(value, copies)]):
        return False
    charged = [at for _, numbers in value for at in numbers]
    return len(set(charged)) == len(charged)


def used_lines(kept):
    """How many lines the newest copies hold now, of all records that aren't freed."""
    return sum([len(copy[3]) for copy in newest_copies(kept)])


def space(kept):
    """(copies, lines): how many there are in the memory of a Kept, doors' lines aside."""
    copies = kept.memory()[1]
    return (len(copies), sum([len(copy[3]) for copy in copies]))


def check_prices(copy_price, line_price):
    """BadPrice(value) for the first one that is no price."""
    for value in (copy_price, line_price):
        if not is_between(value, 0, MOST_PRICE):
            raise BadPrice(value)


def total(kept, copy_price, line_price):
    """What the memory of a Kept costs."""
    copies, lines = space(kept)
    return copies * copy_price + lines * line_price


def price(program, calls, spare, copy_price, line_price):
    """What these calls cost with so many spare lines; NoProgram, BadCalls, BadSpare, BadPrice."""
    outcomes = done_calls(program, calls)
    check_spare(spare)
    check_prices(copy_price, line_price)
    return total(kept_behind(program, spare, calls, outcomes), copy_price, line_price)


def cheapest(program, calls, copy_price, line_price):
    """(spare, price): the first spare of 0, 1, .., None with the least price; NoProgram, BadCalls, BadPrice."""
    outcomes = done_calls(program, calls)
    check_prices(copy_price, line_price)
    spares = list(range(MOST_SPARE + 1)) + [None]
    prices = [total(kept_behind(program, spare, calls, outcomes), copy_price, line_price) for spare in spares]
    return (spares[prices.index(min(prices))], min(prices))
