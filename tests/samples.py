"""What several test files use: programs, odd values, and short ways to ask what is raised."""

from everymoment.stores import Store
from everymoment.texts import Program


def text_of(*lines):
    return '\n'.join(lines)


def program_of(*lines):
    return Program(text_of(*lines))


BEGUN = ('fields f', 'doors d', 'part p x')

STACK = program_of(
    'fields key after', 'doors head', 'part push k', 'new r', 'set r key k', 'set r after head', 'put head r',
    'part bump k', 'put at head', 'kind more at', 'while more', 'get old at key', 'add old old k', 'set at key old',
    'get at at after', 'kind more at', 'end', 'part top', 'kind any head', 'if any', 'get k head key', 'tell k', 'else',
    'tell 0', 'end')

PILE = program_of(
    'fields val next', 'doors top', 'part push n', 'new r', 'set r val n', 'set r next top', 'put top r', 'part total',
    'put s 0', 'put r top', 'kind k r', 'while k', 'get v r val', 'add s s v', 'get r r next', 'kind k r', 'end',
    'tell s', 'part pop', 'get v top val', 'get top top next', 'tell v')


def deep(value, levels):
    """The value within so many tuples, lists and dicts."""
    for level in range(levels):
        value = ((value,), [value], {'in': value})[level % 3]
    return value


def odd_values():
    """Values of each kind that there is, none of them a string that names anything."""
    return [None, True, False, 0, 1, -1, 5, 10000, '', ' ', 'x y', 'Head', 'head ', (), [], {}, ('head',), ['head'],
            {'head': 1}, (('head',),), ('push', (1,)), [('push', (1,))], STACK, PILE, Store(STACK), Store(PILE),
            deep(0, 60), deep('head', 60)]


def raised(test, error, function, *given, **named):
    """The value of the error of just this class that the call raises."""
    with test.assertRaises(error) as caught:
        function(*given, **named)
    test.assertIs(type(caught.exception), error)
    return caught.exception.value


def standing(store):
    """All that a store tells of itself."""
    return (store.program, store.moment, store.records, store.calls, len(store),
            [store.door(name) for name in store.program.doors],
            [[store.field(record, name) for name in store.program.fields] for record in range(store.records)])
