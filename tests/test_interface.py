"""The section "The interface": names, arguments, files, and what is defined where."""

import ast
import importlib
import inspect
import pathlib
import unittest

from everymoment.benches import Bench
from everymoment.branches import Tree
from everymoment.desk import Desk
from everymoment.keeping import Kept, kept_of
from everymoment.stores import Store, ran
from everymoment.texts import Program
from samples import STACK

PACKAGE = pathlib.Path(__file__).parent.parent / 'everymoment'

FUNCTIONS = {
    'stores': {'ran': ['program', 'calls'], 'writes': ['program', 'calls']},
    'shapes': {'come_to': ['store'], 'shape': ['store'], 'linkers': ['store'], 'is_shape': ['program', 'value'],
               'shape_read': ['program', 'shape', 'way'], 'way_to': ['program', 'shape', 'number'],
               'parting': ['program', 'one', 'other'], 'shows_parting': ['program', 'one', 'other', 'value']},
    'keeping': {'kept_of': ['program', 'spare', 'calls']},
    'memories': {'is_form': ['program', 'value'], 'is_memory': ['program', 'calls', 'value'],
                 'wrong_place': ['program', 'calls', 'value'],
                 'shows_wrong_place': ['program', 'calls', 'claim', 'value'], 'stretches': ['program', 'memory'],
                 'map_at': ['program', 'memory', 'moment'], 'memory_read': ['program', 'memory', 'moment', 'way'],
                 'plain_of': ['program', 'memory', 'moment']},
    'leaving': {'needed': ['kept', 'moments'], 'needed_copies': ['kept', 'moments'],
                'witness': ['kept', 'moments', 'copy'], 'shows_witness': ['kept', 'moments', 'copy', 'value'],
                'left': ['kept', 'moments']},
    'charges': {'written': ['kept'], 'copied': ['kept'], 'led': ['kept'], 'most_linkers': ['kept'], 'bound': ['kept'],
                'charges': ['kept'], 'shows_charges': ['kept', 'value'], 'used_lines': ['kept'], 'space': ['kept'],
                'price': ['program', 'calls', 'spare', 'copy_price', 'line_price'],
                'cheapest': ['program', 'calls', 'copy_price', 'line_price']},
    'towers': {'tower': ['p', 'levels'], 'tower_calls': ['many'], 'tower_builds': ['p', 'levels'],
               'tower_copies': ['p', 'spare', 'levels', 'many'], 'beyond': ['p', 'spare', 'up', 'down'],
               'shows_beyond': ['p', 'spare', 'up', 'down', 'value']},
    'asking': {'history': ['kept', 'record', 'field'], 'door_history': ['kept', 'door'],
               'since': ['kept', 'moment', 'record', 'field'], 'until': ['kept', 'moment', 'record', 'field'],
               'when': ['kept', 'way', 'value'], 'changes': ['kept', 'one', 'other'], 'alike_moments': ['kept']},
    'journals': {'journal': ['bench'], 'read_journal': ['text']},
}

CLASSES = {
    'texts': {'Program': {'__init__': ['self', 'text'], '__eq__': ['self', 'other'], 'line': ['self', 'number'],
                          'part_at': ['self', 'name']}},
    'stores': {'Store': {'__init__': ['self', 'program'], '__eq__': ['self', 'other'], '__len__': ['self'],
                         'call': ['self', 'name', 'numbers'], 'door': ['self', 'name'],
                         'field': ['self', 'record', 'name'], 'read': ['self', 'way'], 'back': ['self', 'many'],
                         'copy': ['self']}},
    'keeping': {'Kept': {'__init__': ['self', 'program', 'spare'], '__eq__': ['self', 'other'], '__len__': ['self'],
                         'call': ['self', 'name', 'numbers'], 'let_go': ['self', 'moments'], 'memory': ['self'],
                         'read_at': ['self', 'moment', 'way'], 'door_at': ['self', 'moment', 'door'],
                         'copy_at': ['self', 'moment', 'record'], 'field_at': ['self', 'moment', 'record', 'field'],
                         'shape_at': ['self', 'moment'], 'store_at': ['self', 'moment'], 'copy': ['self']}},
    'branches': {'Tree': {'__init__': ['self', 'program'], '__eq__': ['self', 'other'],
                          'call': ['self', 'moment', 'name', 'numbers'], 'parent': ['self', 'moment'],
                          'path': ['self', 'moment'], 'calls_of': ['self', 'moment'], 'records_of': ['self', 'moment'],
                          'door_at': ['self', 'moment', 'door'], 'field_at': ['self', 'moment', 'record', 'field'],
                          'read_at': ['self', 'moment', 'way'], 'shape_at': ['self', 'moment'],
                          'common': ['self', 'one', 'other'], 'changes': ['self', 'one', 'other'],
                          'lines': ['self', 'record', 'field'], 'door_lines': ['self', 'door'], 'copy': ['self']}},
    'benches': {'Bench': {'__init__': ['self', 'text', 'spare'], '__eq__': ['self', 'other'], '__len__': ['self'],
                          '__contains__': ['self', 'value'], 'call': ['self', 'name', 'numbers'],
                          'let_go': ['self', 'moments'], 'respare': ['self', 'spare'], 'kept_now': ['self'],
                          'undo': ['self'], 'redo': ['self'], 'block': ['self'], 'keep': ['self'],
                          'tried': ['self', 'look', 'keep'], 'copy': ['self']}},
    'desk': {'Desk': {'__init__': ['self', 'text'], 'say': ['self', 'line']}},
}


def defined_in(file):
    """The names of the functions and classes that a file of the package defines itself."""
    tree = ast.parse((PACKAGE / (file + '.py')).read_text(encoding='utf-8'))
    return [node.name for node in tree.body if isinstance(node, (ast.FunctionDef, ast.ClassDef))]


class InterfaceTest(unittest.TestCase):

    def test_functions(self):
        for file, functions in FUNCTIONS.items():
            module = importlib.import_module('everymoment.' + file)
            for name, parameters in functions.items():
                with self.subTest(file=file, name=name):
                    self.assertIn(name, defined_in(file))
                    self.assertEqual(list(inspect.signature(getattr(module, name)).parameters), parameters)

    def test_classes_and_their_own_methods(self):
        for file, classes in CLASSES.items():
            module = importlib.import_module('everymoment.' + file)
            for name, methods in classes.items():
                self.assertIn(name, defined_in(file))
                for method, parameters in methods.items():
                    with self.subTest(file=file, name=name, method=method):
                        found = vars(getattr(module, name))[method]
                        self.assertEqual(list(inspect.signature(found).parameters), parameters)

    def test_errors_are_defined_in_their_file(self):
        module = importlib.import_module('everymoment.errors')
        self.assertEqual(sorted(defined_in('errors')),
                         sorted(name for name, value in vars(module).items() if isinstance(value, type)))

    def test_attributes_are_set_as_an_object_is_created(self):
        program = Program(STACK.text)
        self.assertEqual([type(program.text), type(program.fields), type(program.doors), type(program.parts)],
                         [str, tuple, tuple, tuple])
        self.assertTrue(all(type(part) is tuple for part in program.parts))
        for store in (Store(program), ran(program, ()), Store(program).copy()):
            self.assertIs(store.program, program)
            self.assertEqual([type(store.moment), type(store.records), type(store.calls)], [int, int, tuple])
        for kept in (Kept(program, 1), kept_of(program, 1, ()), Kept(program, 1).copy()):
            self.assertIs(kept.program, program)
            self.assertEqual([kept.spare, type(kept.moment), type(kept.records), type(kept.calls), type(kept.copies),
                              type(kept.wanted)], [1, int, int, tuple, int, tuple])
        for tree in (Tree(program), Tree(program).copy()):
            self.assertIs(tree.program, program)
            self.assertEqual([type(tree.moments), type(tree.records), type(tree.order), type(tree.lines_many)],
                             [int, int, tuple, int])
        desk = Desk(STACK.text + '\nspare 1\ndeeds')
        self.assertIs(type(desk.bench), Bench)
        for bench in (Bench(STACK.text, 1), Bench(STACK.text, 1).copy(), desk.bench):
            self.assertEqual(bench.program, program)
            self.assertEqual([bench.spare, type(bench.moment), type(bench.wanted), type(bench.deeds)],
                             [1, int, tuple, int])

    def test_what_is_passed_by_name_alone(self):
        self.assertEqual(str(inspect.signature(Bench.tried)), '(self, look, *, keep=False)')

    def test_all_names_of_the_interface_are_there(self):
        files = {'errors', 'texts', 'stores', 'shapes', 'keeping', 'memories', 'charges', 'towers', 'leaving', 'asking',
                 'branches', 'benches', 'journals', 'desk'}
        self.assertEqual(set(FUNCTIONS) | set(CLASSES) | {'errors'}, files)
        self.assertEqual(sum(map(len, FUNCTIONS.values())) + sum(map(len, CLASSES.values())), 56)


if __name__ == '__main__':
    unittest.main()
