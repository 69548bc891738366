"""What several test files use: programs, odd values, and short ways to ask what is raised."""

from everymoment.keeping import Kept
from everymoment.stores import Store
from everymoment.texts import Program


def text_of(*lines):
    return '\n'.join(lines)


def program_of(*lines):
    return Program(text_of(*lines))


BEGUN = ('fields f', 'doors d', 'part p x')

STACK = program_of(
    'fields key after', 'doors head', 'part push k', 'new r', 'set r key k', 'set r after head', 'put head r',
    'part bump k', 'put at head', 'kind more at', 'while more', 'get old at key', 'add old old k', 'set at key old',
    'get at at after', 'kind more at', 'end', 'part top', 'kind any head', 'if any', 'get k head key', 'tell k', 'else',
    'tell 0', 'end')

PILE = program_of(
    'fields val next', 'doors top', 'part push n', 'new r', 'set r val n', 'set r next top', 'put top r', 'part total',
    'put s 0', 'put r top', 'kind k r', 'while k', 'get v r val', 'add s s v', 'get r r next', 'kind k r', 'end',
    'tell s', 'part pop', 'get v top val', 'get top top next', 'tell v')

# Records between two doors, which are turned, tied in rings and to themselves, lost, and written often in one call.
WEB = program_of(
    'fields key left right', 'doors here there', 'part make n', 'new r', 'set r key n', 'set r left here',
    'set r right there', 'put here r', 'part step', 'kind k here', 'if k', 'get here here left', 'end', 'part turn',
    'put x here', 'put here there', 'put there x', 'part mark n', 'kind k here', 'if k', 'set here key n', 'end',
    'part tie', 'kind k here', 'if k', 'set here right there', 'end', 'part ring', 'kind k there', 'if k',
    'set there left here', 'end', 'part own', 'kind k there', 'if k', 'set there right there', 'end', 'part lose',
    'put here 0', 'part busy n', 'kind k there', 'if k', 'get old there key', 'set there key n', 'set there left here',
    'set there key 7', 'get p there right', 'kind k p', 'if k', 'set p key n', 'set p left there', 'end',
    'put here there', 'set there key old', 'end', 'part fail n', 'call make n', 'call ring', 'tell here', 'set n key 1')

# A row of records, each linked by the one that came behind it, of which the first and the last one can be poked.
ROW = program_of(
    'fields key next', 'doors top low', 'part push n', 'new r', 'set r key n', 'set r next top', 'put top r',
    'kind k low', 'if k', 'else', 'put low r', 'end', 'part poke n', 'set low key n', 'part prod n', 'set top key n')

# A row in both directions, through which a door goes; what stands behind the door can be taken out of it.
CHAIN = program_of(
    'fields key next prior', 'doors at', 'part put1 n', 'new r', 'set r key n', 'kind k at', 'if k', 'get x at next',
    'set r next x', 'set r prior at', 'set at next r', 'kind k x', 'if k', 'set x prior r', 'end', 'else', 'put at r',
    'end', 'part on', 'get x at next', 'kind k x', 'if k', 'put at x', 'end', 'part off', 'get x at prior', 'kind k x',
    'if k', 'put at x', 'end', 'part mark n', 'set at key n', 'part cut', 'get x at next', 'kind k x', 'if k',
    'get y x next', 'set at next y', 'set x next 0', 'set x prior 0', 'kind k y', 'if k', 'set y prior at', 'end',
    'end')


def deep(value, levels):
    """The value within so many tuples, lists and dicts."""
    for level in range(levels):
        value = ((value,), [value], {'in': value})[level % 3]
    return value


def odd_values():
    """Values of each kind that there is, none of them a string that names anything."""
    return [None, True, False, 0, 1, -1, 5, 10000, '', ' ', 'x y', 'Head', 'head ', (), [], {}, ('head',), ['head'],
            {'head': 1}, (('head',),), ('push', (1,)), [('push', (1,))], STACK, PILE, Store(STACK), Store(PILE),
            Kept(PILE, 1), deep(0, 60), deep('head', 60)]


def raised(test, error, function, *given, **named):
    """The value of the error of just this class that the call raises."""
    with test.assertRaises(error) as caught:
        function(*given, **named)
    test.assertIs(type(caught.exception), error)
    return caught.exception.value


def standing(store):
    """All that a store tells of itself."""
    return (store.program, store.moment, store.records, store.calls, len(store),
            [store.door(name) for name in store.program.doors],
            [[store.field(record, name) for name in store.program.fields] for record in range(store.records)])
