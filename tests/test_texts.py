"""Point 4, and what point 2 says of NAMES and PROGRAMS."""

import unittest

from everymoment.errors import BadLine, BadProgram, NoPart, NoProgram
from everymoment.stores import Store, ran, writes
from everymoment.texts import Program
from samples import BEGUN, STACK, odd_values, program_of, raised, text_of

SET_WORDS = '''fields doors part new get set put add less same kind tell call if else end while'''.split()


class TextCase(unittest.TestCase):

    def assert_stands(self, *lines):
        with self.subTest(lines=lines):
            self.assertEqual(Program(text_of(*lines)).text, text_of(*lines))

    def assert_refused(self, number, *lines):
        with self.subTest(lines=lines):
            self.assertEqual(raised(self, BadProgram, Program, text_of(*lines)), number)

    def assert_line_stands(self, *lines):
        """The lines stand behind BEGUN, the last one of them, too."""
        self.assert_stands(*BEGUN, *lines)

    def assert_line_refused(self, *lines):
        """The last of the lines, and no other one, is refused behind BEGUN."""
        self.assert_refused(len(BEGUN) + len(lines), *BEGUN, *lines)


class FormTest(TextCase):

    def test_what_is_no_string(self):
        for value in odd_values():
            if not isinstance(value, str):
                with self.subTest(value=value):
                    self.assertEqual(raised(self, BadProgram, Program, value), 0)

    def test_the_text_without_signs_has_one_line(self):
        self.assert_refused(1, '')

    def test_the_first_line(self):
        for line in ('fields', 'field f', 'doors d', 'f', ' fields f', 'Fields f', 'part p', 'fields f g h i j k',
                     'fields fields', 'fields f f', 'fields 1', 'fields f g f'):
            self.assert_refused(1, line, 'doors d', 'part p')
        for line in ('fields f', 'fields f g', 'fields f g h', 'fields f g h i', 'fields f g h i j'):
            self.assert_stands(line, 'doors d', 'part p')

    def test_the_second_line(self):
        for line in ('doors', 'door d', 'fields g', 'd', ' doors d', 'doors a b c e', 'doors doors', 'doors d d',
                     'doors f', 'doors d f', 'doors -1', 'part p', ''):
            self.assert_refused(2, 'fields f', line, 'part p')
        for line in ('doors d', 'doors d e', 'doors d e g'):
            self.assert_stands('fields f', line, 'part p')

    def test_what_must_come_is_not_there(self):
        self.assert_refused(2, 'fields f')
        self.assert_refused(3, 'fields f', 'doors d')

    def test_nothing_but_a_part_comes_third(self):
        for line in ('', 'tell 1', 'new d', 'fields g', 'doors e', 'end', 'put d 1', 'parts p', 'p', 'part'):
            self.assert_refused(3, 'fields f', 'doors d', line, 'part p')

    def test_an_empty_line_cannot_stand(self):
        self.assert_line_refused('')
        self.assert_line_refused('tell 1', '')

    def test_one_blank_between_words(self):
        for line in (' tell 1', 'tell 1 ', 'tell  1', 'tell\t1', 'tell 1\t', 'tell1', 'end ', 'if  x', 'new  y'):
            self.assert_line_refused(line)
        for line in ('part  q', 'part q ', ' part q', 'part q  y'):
            self.assert_line_refused(line)
        self.assert_refused(1, 'fields  f', 'doors d', 'part p')
        self.assert_refused(2, 'fields f', 'doors d ', 'part p')

    def test_lines_are_at_most_150(self):
        lines = BEGUN + ('tell x',) * 147
        self.assert_stands(*lines)
        self.assert_refused(151, *lines, 'tell x')
        self.assert_refused(151, *lines, 'part q')
        self.assert_refused(151, *lines, '')
        self.assert_refused(151, *lines, *lines)

    def test_a_block_that_the_150th_line_leaves_open(self):
        lines = BEGUN + ('if x',) + ('tell x',) * 146
        self.assert_refused(151, *lines)
        self.assert_refused(151, *lines, 'end')

    def test_words_in_a_line(self):
        # No line of seven or eight words has a form in the table, so those are refused as nine are.
        for words in (6, 7, 8, 9):
            for line in ('part q', 'call p', 'tell', 'put', 'add', 'new', 'end', 'if', 'get'):
                self.assert_line_refused(' '.join(line.split() + ['x'] * (words - len(line.split()))))
            names = ' '.join(['a', 'b', 'c', 'd', 'e', 'g', 'h', 'i'][:words - 1])
            if words == 6:
                self.assert_stands('fields ' + names, 'doors f', 'part p')
            else:
                self.assert_refused(1, 'fields ' + names, 'doors f', 'part p')

    def test_the_first_of_several_lines_that_cannot_stand(self):
        self.assert_refused(1, 'fields', 'doors', 'part')
        self.assert_refused(2, 'fields f', 'doors', 'part')
        self.assert_refused(4, *BEGUN, 'no', 'part d', 'if x')
        self.assert_refused(6, *BEGUN, 'if x', 'tell x', 'part q', 'end')
        self.assert_refused(4, *BEGUN, 'tell y z', *['tell x'] * 200)


class NamesTest(TextCase):

    def assert_name(self, name, stands):
        texts = [(1, ('fields ' + name, 'doors d', 'part p')), (1, ('fields e ' + name, 'doors d', 'part p')),
                 (2, ('fields f', 'doors ' + name, 'part p')), (3, ('fields f', 'doors d', 'part ' + name)),
                 (3, ('fields f', 'doors d', 'part p ' + name)), (4, BEGUN + ('new ' + name,)),
                 (4, BEGUN + ('tell ' + name,)), (4, BEGUN + ('put x ' + name,)), (4, BEGUN + ('set d f ' + name,))]
        for number, lines in texts:
            if stands:
                self.assert_stands(*lines)
            else:
                self.assert_refused(number, *lines)

    def test_names(self):
        for name in ('a', 'z', 'az', 'a0', 'z9', 'abcdef', 'a12345', 'a1b2c3', 'record', 'none', 'ends', 'ifs', 'elif',
                     'parts', 'field', 'door', 'news', 'not', 'in', 'for'):
            self.assert_name(name, True)

    def test_no_names(self):
        for name in ('abcdefg', 'a123456', 'A', 'aB', 'Ab', '0a', 'a_b', '_a', 'a-b', 'a.b', 'a+', '`', '{', 'a{',
                     'a/', 'a:', '9z', '-a', '', '@', '['):
            self.assert_name(name, False)

    def test_words_that_are_set_in_lines_are_no_names(self):
        for word in SET_WORDS:
            self.assert_name(word, False)

    def test_fields_doors_and_parts_are_all_unlike(self):
        self.assert_refused(3, 'fields f g', 'doors d e', 'part g')
        self.assert_refused(3, 'fields f g', 'doors d e', 'part e')
        self.assert_refused(4, 'fields f', 'doors d', 'part p', 'part p')
        self.assert_refused(5, 'fields f', 'doors d', 'part p', 'part q', 'part p')

    def test_parameters_are_unlike_all_else_in_their_part(self):
        for line in ('part q y y', 'part q y z y', 'part q q', 'part q f', 'part q d', 'part q p', 'part q y p'):
            self.assert_line_refused(line)

    def test_locals_of_unlike_parts_may_be_called_alike(self):
        self.assert_line_stands('tell y', 'part q x y', 'tell z', 'part r x z')

    def test_no_local_is_called_like_a_field_or_a_part(self):
        for name in ('f', 'p'):
            for line in ('new @', 'get @ x f', 'get x @ f', 'set @ f x', 'set x f @', 'put @ x', 'put x @', 'add @ x x',
                         'add x @ x', 'add x x @', 'less @ x x', 'same x @ x', 'kind @ x', 'kind x @', 'tell @', 'if @',
                         'while @'):
                self.assert_line_refused(line.replace('@', name))

    def test_a_part_further_down_is_called_like_no_local_ahead(self):
        self.assert_line_refused('part x')
        self.assert_line_refused('tell y', 'part y')
        self.assert_line_refused('new y', 'part y')
        self.assert_line_refused('part q y z', 'part r', 'part z')
        self.assert_line_refused('set y f 1', 'part q', 'part y')

    def test_a_part_further_down_may_be_called_otherwise(self):
        self.assert_line_stands('tell y', 'part z', 'part q')

    def test_parts_are_at_most_12(self):
        lines = ['part p' + str(number) for number in range(13)]
        self.assert_stands('fields f', 'doors d', *lines[:12])
        self.assert_refused(15, 'fields f', 'doors d', *lines)
        self.assert_stands('fields f', 'doors d', *lines[:12], 'tell 1')

    def test_parameters_are_at_most_three(self):
        for line in ('part q', 'part q a', 'part q a b', 'part q a b c'):
            self.assert_line_stands(line)
        self.assert_line_refused('part q a b c e')
        self.assert_line_refused('part q a 1')
        self.assert_line_refused('part')


class StatementsTest(TextCase):

    def test_each_statement(self):
        for line in ('new y', 'new d', 'new x', 'get y x f', 'get d d f', 'get y 5 f', 'set x f y', 'set d f 1',
                     'set 1 f d', 'put y 1', 'put d x', 'add y 1 2', 'add d d x', 'less y 1 d', 'same d y z',
                     'kind y 0', 'kind d d', 'tell 1', 'tell d', 'tell y'):
            self.assert_line_stands(line)

    def test_words_too_few_or_too_many(self):
        for line in ('new', 'new y z', 'get y x', 'get y x f f', 'get', 'set x f', 'set x f y z', 'put y', 'put y 1 2',
                     'put', 'add y 1', 'add y 1 2 3', 'less y 1', 'less y 1 2 3', 'same y 1', 'same y 1 2 3', 'kind y',
                     'kind y 1 2', 'tell', 'tell 1 2', 'if', 'if x x', 'while', 'while x x', 'call', 'call p',
                     'x', 'x 1', 'puts y 1', 'NEW y', '5', 'fields g', 'doors e', 'f', 'd', 'p'):
            self.assert_line_refused(line)
        self.assert_line_refused('if x', 'else x')
        self.assert_line_refused('if x', 'end x')

    def test_an_integer_where_a_local_or_door_is_wanted(self):
        for line in ('new 1', 'get 1 x f', 'put 1 x', 'add 1 2 3', 'less 0 1 2', 'same 1 x x', 'kind 1 x'):
            self.assert_line_refused(line)

    def test_no_field_where_one_is_wanted(self):
        for line in ('get x d d', 'get x d x', 'get x d g', 'get x d 1', 'get x d p', 'set d x 1', 'set d d 1',
                     'set d 0 1', 'set x p 1', 'set f f 1', 'get f x f', 'get x f f'):
            self.assert_line_refused(line)

    def test_integers_as_python_writes_them(self):
        for word in ('0', '1', '-1', '9', '10', '9999', '-9999', '-10', '1000'):
            for line in ('tell @', 'put x @', 'if @', 'while @', 'add x @ 1', 'set @ f @', 'get x @ f'):
                ends = ('end',) if line.split()[0] in ('if', 'while') else ()
                self.assert_line_stands(line.replace('@', word), *ends)
        for word in ('10000', '-10000', '99999', '00', '01', '-0', '-01', '+1', '--1', '-', '1_0', '1.0', '0x1', '1e1',
                     '0009', '09999', '1-', '1a', '12345678', '- 1', '\u0661', '\u00b2'):
            for line in ('tell @', 'put x @', 'if @', 'while @', 'add x @ 1', 'add x 1 @'):
                self.assert_line_refused(line.replace('@', word))

    def test_call_wants_a_part_that_begins_on_an_earlier_line_than_this_one(self):
        self.assert_line_stands('part q', 'call p 1')
        self.assert_line_stands('part q a b c', 'part r', 'call q 1 x d', 'call p y')
        self.assert_line_refused('call p 1')
        self.assert_line_refused('call q')
        self.assert_refused(4, *BEGUN, 'call q', 'part q')
        self.assert_line_refused('part q', 'call q')
        self.assert_line_refused('part q', 'call r')
        for name in ('x', 'd', 'f', '1', 'y', 'call', ''):
            self.assert_line_refused('part q', 'call ' + name)
            self.assert_line_refused('part q', 'call ' + name + ' 1')

    def test_call_wants_as_many_as_the_part_has_parameters(self):
        self.assert_line_stands('part q', 'part r', 'call q')
        for line in ('call p', 'call p 1 2', 'call p f', 'call p p', 'call p q', 'call p 10000', 'call p end'):
            self.assert_line_refused('part q', line)
        for line in ('call q a b', 'call q 1 2 3 4', 'call q'):
            self.assert_line_refused('part q a b c', 'part r', line)

    def test_a_name_that_call_brings_is_a_local(self):
        self.assert_line_refused('part q', 'call p y', 'part y')


class BlocksTest(TextCase):

    def test_blocks(self):
        self.assert_line_stands('if x', 'end')
        self.assert_line_stands('if x', 'else', 'end')
        self.assert_line_stands('while x', 'end')
        self.assert_line_stands('if x', 'while y', 'end', 'else', 'if z', 'else', 'end', 'end', 'while x', 'end')

    def test_end_and_else_want_a_block(self):
        self.assert_line_refused('end')
        self.assert_line_refused('else')
        self.assert_line_refused('if x', 'end', 'end')
        self.assert_line_refused('if x', 'end', 'else')
        self.assert_line_refused('if x', 'else', 'end', 'end')

    def test_else_stands_in_an_if_once(self):
        self.assert_line_refused('while x', 'else')
        self.assert_line_refused('if x', 'while x', 'else')
        self.assert_line_refused('if x', 'else', 'else')
        self.assert_line_refused('if x', 'else', 'tell 1', 'else')
        self.assert_line_refused('if x', 'else', 'if x', 'end', 'else')
        self.assert_line_stands('if x', 'if x', 'else', 'end', 'else', 'end')

    def test_blocks_end_within_their_part(self):
        self.assert_line_refused('if x', 'part q')
        self.assert_line_refused('while x', 'part q')
        self.assert_line_refused('if x', 'else', 'part q')
        self.assert_line_refused('part q', 'end')

    def test_a_block_that_is_open_at_the_end(self):
        for lines in (('if x',), ('while x',), ('if x', 'else'), ('if x', 'if x', 'end')):
            self.assert_refused(len(BEGUN) + len(lines) + 1, *BEGUN, *lines)

    def test_blocks_are_at_most_six_deep(self):
        for words in (['if x'] * 6, ['while x'] * 6, ['if x', 'while x'] * 3):
            self.assert_line_stands(*words, *['end'] * 6)
            self.assert_line_stands(*words, 'end', 'if x', 'end', *['end'] * 5)
            self.assert_line_refused(*words, 'if x')
            self.assert_line_refused(*words, 'while x')
        self.assert_line_stands(*['if x', 'else'] * 6, *['end'] * 6)
        self.assert_line_refused(*['if x', 'else'] * 6, 'if x')
        self.assert_line_stands(*['if x', 'end'] * 7)


class ProgramTest(TextCase):

    def test_text_fields_doors_and_parts(self):
        text = text_of('fields b a', 'doors d c', 'part q', 'part p y x', 'tell z', 'part o a1 a2 a3')
        program = Program(text)
        self.assertEqual(program.text, text)
        self.assertEqual(program.fields, ('b', 'a'))
        self.assertEqual(program.doors, ('d', 'c'))
        self.assertEqual(program.parts, (('q', 0), ('p', 2), ('o', 3)))

    def test_by_name(self):
        self.assertEqual(Program(text=STACK.text), STACK)
        self.assertEqual(STACK.line(number=3), 'part push k')
        self.assertEqual(STACK.part_at(name='top'), (18, 25))

    def test_line(self):
        lines = STACK.text.split('\n')
        self.assertEqual([STACK.line(number) for number in range(1, 26)], lines)

    def test_no_line(self):
        for value in odd_values() + [26, 27, -25]:
            if type(value) is not int or not 1 <= value <= 25:
                with self.subTest(value=value):
                    self.assertIs(raised(self, BadLine, STACK.line, value), value)

    def test_part_at(self):
        program = program_of('fields f', 'doors d', 'part p', 'part q', 'tell 1', 'tell 2', 'part r', 'tell 3')
        self.assertEqual([program.part_at(name) for name in 'pqr'], [(3, 3), (4, 6), (7, 8)])
        self.assertEqual([STACK.part_at(name) for name in ('push', 'bump', 'top')], [(3, 7), (8, 17), (18, 25)])

    def test_no_part_at(self):
        for value in odd_values() + ['head', 'key', 'k', 'pushx', 'push k', 'Push', 'r']:
            with self.subTest(value=value):
                self.assertIs(raised(self, NoPart, STACK.part_at, value), value)

    def test_equality(self):
        other = Program(STACK.text)
        self.assertTrue(other == STACK)
        self.assertFalse(other != STACK)
        self.assertFalse(program_of(*BEGUN) == program_of(*BEGUN, 'tell x'))
        self.assertTrue(program_of(*BEGUN) != program_of('fields f', 'doors d', 'part p y'))
        for value in odd_values() + [STACK.text]:
            if value is not STACK:
                with self.subTest(value=value):
                    self.assertIs(STACK == value, False)
                    self.assertIs(value == STACK, False)
                    self.assertIs(STACK != value, True)

    def test_no_other_operators(self):
        other = Program(STACK.text)
        for deed in (lambda: STACK < other, lambda: STACK >= other, lambda: STACK + other, lambda: len(STACK),
                     lambda: 'push' in STACK, lambda: STACK[0]):
            self.assertRaises(TypeError, deed)

    def test_no_program(self):
        for value in odd_values() + [STACK.text]:
            if not isinstance(value, Program):
                with self.subTest(value=value):
                    self.assertIs(raised(self, NoProgram, Store, value), value)
                    for calls in ((), None, (1,), (('push', (1,)),)):
                        self.assertIs(raised(self, NoProgram, ran, value, calls), value)
                        self.assertIs(raised(self, NoProgram, writes, value, calls), value)


if __name__ == '__main__':
    unittest.main()
