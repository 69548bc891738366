"""Point 14: a bench, its deeds, what takes them back, and its blocks."""

import random
import unittest

from everymoment.benches import Bench
from everymoment.charges import space, written
from everymoment.errors import (
    BadMoments, BadNumbers, BadProgram, BadSpare, Fault, LetGo, NoBlock, NoPart, NothingToRedo, NothingToUndo)
from everymoment.journals import journal, read_journal
from everymoment.keeping import Kept, kept_of
from maker import programs
from samples import PILE, STACK, odd_values, program_of, raised

HEAP = program_of('fields val link', 'doors top', 'part push v', 'new n', 'set n val v', 'set n link top', 'put top n',
                  'tell n', 'part low v', 'get n top link', 'set n val v', 'part drop', 'put top 0')

R0, R1, R2 = [('record', number) for number in range(3)]


def bench_of(*deeds, spare=0, program=HEAP):
    """A Bench with these deeds, each (word, given ..)."""
    bench = Bench(program.text, spare)
    for word, *given in deeds:
        do(bench, word, given)
    return bench


def do(bench, word, given):
    if word == 'call':
        return bench.call(given[0], tuple(given[1:]))
    return getattr(bench, word)(*given)


def pushed(spare=0):
    return bench_of(('call', 'push', 5), ('call', 'push', 7), spare=spare)


def all_of(bench):
    """All that a Bench tells, with what can be undone and done again."""
    found = [stands(bench)]
    for word in ('undo', 'redo'):
        other = bench.copy()
        try:
            while True:
                getattr(other, word)()
                found.append((word, stands(other)))
        except (NothingToUndo, NothingToRedo):
            pass
    return found


def stands(bench):
    kept = bench.kept_now()
    return [bench.program.text, bench.spare, bench.moment, bench.wanted, bench.deeds, len(bench), journal(bench),
            kept.memory(), kept.calls, kept.wanted, kept.spare, written(kept),
            [value in bench for value in range(-1, bench.moment + 2)]]


class DeedsTest(unittest.TestCase):

    def test_at_first(self):
        bench = Bench(text=HEAP.text, spare=3)
        self.assertEqual([bench.program, bench.spare, bench.moment, bench.wanted, bench.deeds, len(bench)],
                         [HEAP, 3, 0, (0,), 0, 0])
        self.assertTrue(bench.kept_now() == Kept(HEAP, 3))
        self.assertEqual([Bench(HEAP.text, spare).spare for spare in (0, 8, None)], [0, 8, None])

    def test_errors_as_it_is_made(self):
        for value in odd_values():
            if type(value) is not str:
                self.assertEqual(raised(self, BadProgram, Bench, value, 'x'), 0)
        self.assertEqual(raised(self, BadProgram, Bench, '', 9), 1)
        self.assertEqual(raised(self, BadProgram, Bench, 'fields f\ndoors d', 9), 3)
        for value in odd_values() + [9]:
            if value is not None and not (type(value) is int and 0 <= value <= 8):
                self.assertIs(raised(self, BadSpare, Bench, HEAP.text, value), value)

    def test_calls(self):
        bench = pushed()
        self.assertEqual([bench.call(name='push', numbers=(9,)), bench.call('low', (1,))], [(R2,), ()])
        self.assertEqual([bench.moment, bench.wanted, bench.deeds, len(bench)], [4, (0, 1, 2, 3, 4), 4, 4])
        kept = kept_of(HEAP, 0, (('push', (5,)), ('push', (7,)), ('push', (9,)), ('low', (1,))))
        self.assertTrue(bench.kept_now() == kept)
        self.assertEqual(bench.kept_now().memory(), kept.memory())

    def test_let_go(self):
        bench = pushed()
        self.assertIsNone(bench.let_go(moments=(1,)))
        self.assertEqual([bench.wanted, bench.moment, bench.deeds, len(bench)], [(1, 2), 2, 3, 2])
        kept = kept_of(HEAP, 0, (('push', (5,)), ('push', (7,))))
        kept.let_go((1,))
        self.assertTrue(bench.kept_now() == kept)
        self.assertEqual(bench.kept_now().memory(), kept.memory())

    def test_respare(self):
        bench = pushed()
        bench.call('low', (3,))
        self.assertEqual([bench.respare(spare=2), bench.spare, bench.deeds, bench.moment], [None, 2, 4, 3])
        self.assertTrue(bench.kept_now() == kept_of(HEAP, 2, bench.kept_now().calls))
        self.assertEqual(bench.kept_now().memory(), kept_of(HEAP, 2, bench.kept_now().calls).memory())
        bench.respare(None)
        self.assertEqual([bench.spare, space(bench.kept_now())], [None, (2, 1)])
        bench.undo()
        self.assertEqual([bench.spare, bench.deeds], [2, 4])
        # The same spare once more is a deed, too.
        bench.respare(2)
        self.assertEqual([bench.spare, bench.deeds], [2, 5])

    def test_respare_behind_a_let_go(self):
        bench = pushed()
        bench.let_go(())
        for _ in range(2):
            self.assertIsNone(raised(self, LetGo, bench.respare, 1))
            for value in odd_values() + [9]:
                if value is not None and not (type(value) is int and 0 <= value <= 8):
                    self.assertIs(raised(self, BadSpare, bench.respare, value), value)
            bench.call('push', (1,))
        bench.undo(), bench.undo()
        self.assertIsNone(raised(self, LetGo, bench.respare, None))
        # Undone, it stands no more.
        bench.undo()
        bench.respare(1)
        self.assertEqual([bench.spare, bench.wanted], [1, (0, 1, 2)])
        first = Bench(HEAP.text, 1)
        first.let_go((0,))
        self.assertIsNone(raised(self, LetGo, first.respare, 1))

    def test_refused_deeds_do_nothing(self):
        bench = pushed()
        bench.call('drop', ())
        bench.undo()
        elder = all_of(bench)
        for value in odd_values() + ['top', 'Push']:
            self.assertIs(raised(self, NoPart, bench.call, value, None), value)
        for value in odd_values() + [(1, 2), (10000,), [1]]:
            if value != (0,):
                self.assertIs(raised(self, BadNumbers, bench.call, 'push', value), value)
        for value in odd_values() + [(3,), (1, 1), (2, 1), [1]]:
            if value != ():
                self.assertIs(raised(self, BadMoments, bench.let_go, value), value)
        empty = Bench(HEAP.text, 1)
        self.assertEqual(raised(self, Fault, empty.call, 'low', (1,)), 10)
        self.assertEqual([empty.deeds, empty.moment], [0, 0])
        self.assertIsNone(raised(self, NothingToUndo, empty.undo))
        self.assertEqual(all_of(bench), elder)
        bench.redo()
        self.assertEqual(bench.moment, 3)

    def test_what_is_in_it(self):
        bench = pushed()
        self.assertEqual([moment in bench for moment in range(-1, 4)], [False, True, True, True, False])
        bench.let_go((1,))
        self.assertEqual([moment in bench for moment in range(-1, 4)], [False, False, True, True, False])
        for value in odd_values() + ['1', (1,), 1.0, True]:
            self.assertIs(value in bench, type(value) is int and value in (1, 2))

    def test_kept_now_stands_by_itself(self):
        bench = pushed()
        elder = all_of(bench)
        kept = bench.kept_now()
        kept.call('push', (1,))
        kept.let_go(())
        self.assertEqual(all_of(bench), elder)
        other = bench.kept_now()
        bench.call('push', (2,))
        self.assertEqual([other.moment, kept.moment], [2, 3])


class UndoTest(unittest.TestCase):

    def test_ends(self):
        bench = Bench(HEAP.text, 1)
        self.assertIsNone(raised(self, NothingToUndo, bench.undo))
        self.assertIsNone(raised(self, NothingToRedo, bench.redo))
        bench.call('push', (5,))
        self.assertIsNone(raised(self, NothingToRedo, bench.redo))
        self.assertIsNone(bench.undo())
        self.assertIsNone(raised(self, NothingToUndo, bench.undo))
        self.assertEqual([bench.moment, bench.deeds, bench.wanted], [0, 0, (0,)])
        self.assertIsNone(bench.redo())
        self.assertIsNone(raised(self, NothingToRedo, bench.redo))
        self.assertEqual([bench.moment, bench.deeds, bench.wanted], [1, 1, (0, 1)])

    def test_over_all_kinds_of_deeds(self):
        deeds = [('call', 'push', 5), ('call', 'push', 7), ('respare', 1), ('call', 'low', 3), ('let_go', (1, 3)),
                 ('call', 'low', 4), ('let_go', (1,))]
        steps = [stands(bench_of(*deeds[:many])) for many in range(len(deeds) + 1)]
        bench = bench_of(*deeds)
        for step in steps[:-1][::-1]:
            bench.undo()
            self.assertEqual(stands(bench), step)
        self.assertIsNone(raised(self, NothingToUndo, bench.undo))
        for step in steps[1:]:
            bench.redo()
            self.assertEqual(stands(bench), step)
        self.assertIsNone(raised(self, NothingToRedo, bench.redo))

    def test_another_deed_ends_what_can_be_done_again(self):
        for deed in (('call', 'push', 1), ('let_go', ()), ('respare', 0)):
            bench = pushed()
            bench.undo()
            do(bench, deed[0], deed[1:])
            self.assertIsNone(raised(self, NothingToRedo, bench.redo))

    def test_a_refused_deed_does_not(self):
        bench = pushed()
        bench.undo()
        for method, given in ((bench.call, ('push', ())), (bench.call, ('odd', ())), (bench.call, ('low', (1, 2))),
                              (bench.let_go, ((5,),)), (bench.respare, (9,)), (bench.keep, ())):
            with self.assertRaises(ValueError):
                method(*given)
        bench.redo()
        self.assertTrue(bench == pushed())


class BlocksTest(unittest.TestCase):

    def test_a_block_is_taken_back(self):
        bench = pushed()
        bench.undo()
        elder = all_of(bench)
        with bench.block() as held:
            self.assertIs(held, bench)
            held.redo()
            held.call('push', (1,))
            held.let_go((1,))
            self.assertEqual([bench.deeds, bench.wanted], [4, (1, 3)])
        self.assertEqual(all_of(bench), elder)
        with bench.block():
            bench.undo()
            bench.respare(3)
            self.assertEqual([bench.spare, bench.moment], [3, 0])
        self.assertEqual(all_of(bench), elder)

    def test_a_block_is_kept(self):
        bench = pushed()
        with bench.block():
            bench.call('push', (1,))
            self.assertIsNone(bench.keep())
            bench.call('push', (2,))
        self.assertEqual([bench.moment, bench.deeds], [4, 4])
        bench.undo()
        self.assertEqual([bench.moment, bench.deeds], [3, 3])
        with bench.block():
            bench.keep()
            bench.undo(), bench.undo()
        self.assertEqual([bench.moment, bench.deeds], [1, 1])
        bench.redo(), bench.redo(), bench.redo()
        self.assertEqual([bench.moment, bench.deeds], [4, 4])

    def test_errors_take_back_and_pass_on(self):
        bench = pushed()
        elder = all_of(bench)
        for error in (KeyError, KeyboardInterrupt):
            with self.assertRaises(error):
                with bench.block():
                    bench.call('push', (1,))
                    bench.keep()
                    raise error
            self.assertEqual(all_of(bench), elder)
        self.assertIsNone(raised(self, NoBlock, bench.keep))

    def test_keep_outside(self):
        bench = pushed()
        self.assertIsNone(raised(self, NoBlock, bench.keep))
        with bench.block():
            pass
        self.assertIsNone(raised(self, NoBlock, bench.keep))
        # What was not entered is no block that the bench is in.
        bench.block()
        self.assertIsNone(raised(self, NoBlock, bench.keep))

    def test_blocks_within_blocks(self):
        for outer in (False, True):
            for inner in (False, True):
                bench = pushed()
                with bench.block():
                    bench.call('push', (1,))
                    with bench.block():
                        bench.call('push', (2,))
                        if inner:
                            bench.keep()
                    self.assertEqual(bench.moment, 4 if inner else 3)
                    bench.call('push', (3,))
                    if outer:
                        bench.keep()
                self.assertEqual(bench.moment, 2 if not outer else 5 if inner else 4)

    def test_keep_belongs_to_the_innermost_block(self):
        bench = pushed()
        with bench.block():
            bench.call('push', (1,))
            with bench.block():
                bench.keep()
            bench.call('push', (2,))
        self.assertEqual(bench.moment, 2)
        with bench.block():
            bench.keep()
            with bench.block():
                bench.call('push', (1,))
            bench.call('push', (2,))
        self.assertEqual(bench.kept_now().calls[2:], (('push', (2,)),))

    def test_an_error_that_leaves_the_inner_block_alone(self):
        bench = pushed()
        with bench.block():
            bench.call('push', (1,))
            try:
                with bench.block():
                    bench.call('push', (2,))
                    bench.keep()
                    bench.call('low', ())
            except BadNumbers:
                bench.call('push', (3,))
            bench.keep()
        self.assertEqual([numbers for _, numbers in bench.kept_now().calls], [(5,), (7,), (1,), (3,)])

    def test_a_block_is_as_it_was_when_it_was_entered(self):
        bench = Bench(HEAP.text, 1)
        block = bench.block()
        bench.call('push', (1,))
        with block:
            bench.call('push', (2,))
        self.assertEqual(bench.moment, 1)

    def test_two_benches(self):
        one, other = pushed(), pushed()
        with one.block(), other.block():
            one.call('push', (1,))
            other.call('push', (2,))
            one.keep()
        self.assertEqual([one.moment, other.moment], [3, 2])

    def test_tried(self):
        bench = pushed()
        elder = all_of(bench)

        def look(held):
            self.assertIs(held, bench)
            held.call('push', (1,))
            return [held.moment]

        self.assertEqual([bench.tried(look), bench.tried(look=look, keep=False)], [[3], [3]])
        for value in odd_values() + ['True', 1, [True]]:
            if value is not True:
                self.assertEqual(bench.tried(look, keep=value), [3])
        self.assertEqual(all_of(bench), elder)
        self.assertEqual([bench.tried(look, keep=True), bench.moment, bench.deeds], [[3], 3, 3])
        with self.assertRaises(TypeError):
            bench.tried(look, True)

    def test_tried_and_kept_by_the_look(self):
        bench = pushed()

        def look(held):
            held.call('push', (1,))
            held.keep()

        for keep in (False, None):
            self.assertIsNone(bench.tried(look, keep=keep))
        self.assertEqual(bench.moment, 4)

        def inner(held):
            with held.block():
                held.keep()
                held.call('push', (1,))

        bench.tried(inner)
        self.assertEqual(bench.moment, 4)
        bench.tried(inner, keep=True)
        self.assertEqual(bench.moment, 5)
        self.assertEqual(bench.tried(lambda held: held.tried(look, keep=True)), None)
        self.assertEqual(bench.moment, 5)

    def test_errors_of_the_look(self):
        bench = pushed()
        elder = all_of(bench)

        def look(held):
            held.call('push', (1,))
            held.keep()
            raise LookupError('so')

        for keep in (True, False):
            with self.assertRaises(LookupError):
                bench.tried(look, keep=keep)
            self.assertEqual(all_of(bench), elder)
        with self.assertRaises(NoPart):
            bench.tried(lambda held: held.call('odd', ()))
        self.assertIsNone(raised(self, NoBlock, bench.keep))


class EqualityTest(unittest.TestCase):

    def test_copies(self):
        bench = pushed()
        bench.respare(1)
        bench.undo()
        other = bench.copy()
        self.assertIs(type(other), Bench)
        self.assertTrue(other == bench)
        self.assertEqual(all_of(other), all_of(bench))
        elder = all_of(bench)
        other.redo()
        other.call('push', (1,))
        self.assertEqual(all_of(bench), elder)
        self.assertFalse(other == bench)
        other.undo(), other.undo()
        self.assertTrue(other == bench)

    def test_a_copy_is_outside_of_all_blocks(self):
        bench = pushed()
        with bench.block():
            bench.call('push', (1,))
            other = bench.copy()
            self.assertIsNone(raised(self, NoBlock, other.keep))
            other.call('push', (2,))
            with other.block():
                other.undo()
                bench.call('push', (3,))
        self.assertEqual([bench.moment, other.moment], [2, 4])

    def test_equal_if_journals_are(self):
        self.assertTrue(pushed() == pushed())
        self.assertFalse(pushed() == pushed(spare=1))
        self.assertFalse(pushed() == bench_of(('call', 'push', 5)))
        self.assertFalse(pushed() == bench_of(('call', 'push', 7), ('call', 'push', 5)))
        respared = pushed()
        respared.respare(0)
        self.assertFalse(pushed() == respared)
        # What was undone doesn't stand in a journal.
        respared.undo()
        self.assertTrue(pushed() == respared and not pushed() != respared)
        self.assertFalse(bench_of(program=STACK) == bench_of(program=PILE))
        self.assertFalse(bench_of(('let_go', ()),) == bench_of(('let_go', (0,)),))
        with respared.block():
            self.assertTrue(pushed() == respared)

    def test_equal_to_nothing_else(self):
        bench = pushed()
        for value in odd_values() + [bench.kept_now(), journal(bench)]:
            self.assertFalse(bench == value)
            self.assertTrue(bench != value)


class Model:
    """The deeds of a bench, as a list, done anew each time it is asked."""

    def __init__(self, program, spare):
        self.program, self.spare, self.done, self.undone = program, spare, [], []

    def kept(self, deeds=None):
        kept = Kept(self.program, self.spare)
        for word, *given in self.done if deeds is None else deeds:
            if word == 'call':
                kept.call(*given)
            elif word == 'let_go':
                kept.let_go(*given)
            else:
                elder, kept = kept, Kept(self.program, given[0])
                for call in elder.calls:
                    kept.call(*call)
        return kept

    def takes(self, deed):
        """Whether this deed can be done; then it is."""
        if deed[0] == 'respare' and 'let_go' in [held[0] for held in self.done]:
            return False
        try:
            self.kept(self.done + [deed])
        except ValueError:
            return False
        self.done, self.undone = self.done + [deed], []
        return True


class ManyTest(unittest.TestCase):
    """Benches beside Kepts that did their deeds anew, over many programs, calls, deeds and blocks."""

    def check(self, bench, model):
        kept, now = model.kept(), bench.kept_now()
        self.assertTrue(now == kept)
        self.assertEqual([now.memory(), now.wanted, now.calls], [kept.memory(), kept.wanted, kept.calls])
        self.assertEqual([bench.spare, bench.moment, bench.wanted, bench.deeds, len(bench)],
                         [kept.spare, kept.moment, kept.wanted, len(model.done), kept.moment])

    def step(self, bench, model, chance):
        word = chance.choice(('call', 'call', 'call', 'let_go', 'respare', 'undo', 'undo', 'redo', 'redo'))
        if word == 'undo' or word == 'redo':
            held, other = (model.done, model.undone) if word == 'undo' else (model.undone, model.done)
            if held:
                getattr(bench, word)()
                other.append(held.pop())
            else:
                raised(self, NothingToUndo if word == 'undo' else NothingToRedo, getattr(bench, word))
            return
        if word == 'call':
            name, many = chance.choice(bench.program.parts)
            deed = ('call', name, tuple(chance.randint(-2, 3) for _ in range(many)))
        elif word == 'let_go':
            deed = ('let_go', tuple(at for at in range(bench.moment + 2) if chance.random() < 0.8 and at in bench))
        else:
            deed = ('respare', chance.choice((0, 1, 2, None, 9)))
        if model.takes(deed):
            getattr(bench, word)(*deed[1:])
        else:
            with self.assertRaises(ValueError):
                getattr(bench, word)(*deed[1:])

    def go(self, bench, model, chance, depth):
        for _ in range(5):
            self.step(bench, model, chance)
            if depth < 3 and chance.random() < 0.25:
                elder = list(model.done), list(model.undone)
                keeps, breaks = chance.random() < 0.5, chance.random() < 0.2
                try:
                    with bench.block() as held:
                        self.go(held, model, chance, depth + 1)
                        if keeps:
                            held.keep()
                        if breaks:
                            raise KeyError
                except KeyError:
                    pass
                if breaks or not keeps:
                    model.done, model.undone = elder
            self.check(bench, model)

    def test_many(self):
        for number, program in enumerate(programs(12, 40)):
            chance = random.Random(number)
            spare = chance.choice((0, 1, 3, None))
            bench, model = Bench(program.text, spare), Model(program, spare)
            for _ in range(4):
                self.go(bench, model, chance, 0)
            other = read_journal(journal(bench))
            self.assertTrue(other == bench)
            self.check(other, model)
            self.check(bench.copy(), model)


if __name__ == '__main__':
    unittest.main()
