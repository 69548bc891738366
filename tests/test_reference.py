"""Points 4 and 5, held against a second reading on many texts and calls, the same ones in each run."""

import unittest

from everymoment.errors import BadProgram, Fault
from everymoment.stores import Store, ran, writes
from everymoment.texts import Program
from maker import Maker
from reference import Broken, Machine, refusal
from samples import PILE, STACK, standing


def number_of(text):
    """What BadProgram tells of a text; None if it is a program."""
    try:
        Program(text)
    except BadProgram as error:
        return error.value
    return None


class ReadingTest(unittest.TestCase):

    def test_texts_are_refused_at_the_same_line(self):
        maker = Maker(1)
        for _ in range(600):
            text = maker.text()
            self.assertIsNone(number_of(text), text)
            for _ in range(3):
                other = maker.bent(text)
                self.assertEqual(number_of(other), refusal(other), other)

    def test_beginnings_of_texts(self):
        for text in (STACK.text, PILE.text):
            for end in range(len(text)):
                self.assertEqual(number_of(text[:end]), refusal(text[:end]), text[:end])


class RunningTest(unittest.TestCase):

    def do_both(self, store, machine, name, numbers):
        """Does a call at both machines, which must tell the same."""
        elder = standing(store)
        try:
            told = machine.call(name, numbers)
        except Broken as error:
            with self.assertRaises(Fault) as caught:
                store.call(name, numbers)
            self.assertEqual(caught.exception.value, error.args[0])
            self.assertEqual(standing(store), elder)
            return
        self.assertEqual(store.call(name, numbers), told)
        self.assertEqual(standing(store)[5:], machine.state())
        self.assertEqual(store.moment, elder[1] + 1)

    def test_calls_do_the_same(self):
        maker = Maker(2)
        for _ in range(250):
            program = Program(maker.text())
            store, machine = Store(program), Machine(program.text)
            for _ in range(8):
                name, many = maker.random.choice(program.parts)
                self.do_both(store, machine, name, tuple(maker.random.randint(-2, 4) for _ in range(many)))
            self.assertEqual(writes(program, store.calls), tuple(machine.written))
            self.assertEqual(standing(ran(program, store.calls)), standing(store))

    def test_back_leads_to_what_was(self):
        maker = Maker(3)
        for _ in range(60):
            program = Program(maker.text())
            store = Store(program)
            seen = [standing(store)]
            for _ in range(6):
                name, many = maker.random.choice(program.parts)
                try:
                    store.call(name, (1,) * many)
                except Fault:
                    continue
                seen.append(standing(store))
            for many in range(1, store.moment + 1):
                other = store.copy()
                other.back(many)
                self.assertEqual(standing(other), seen[-1 - many])


if __name__ == '__main__':
    unittest.main()
