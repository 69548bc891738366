"""What can be told of ../shared/LANGUAGE.md by looking at the files of the package.

Here and there this is narrower than the rules are, as the package needs no more so far.
"""

import ast
import builtins
import pathlib
import re
import unittest

PACKAGE = pathlib.Path(__file__).parent.parent / 'everymoment'

BUILTINS = set('''len range enumerate zip min max sum abs sorted reversed int str bool bytes list tuple dict set
frozenset isinstance ord repr any all divmod Exception ValueError TypeError KeyError IndexError LookupError
ZeroDivisionError ArithmeticError OverflowError RuntimeError NotImplementedError'''.split())

METHODS = set('''append clear copy count endswith extend find get index insert isalnum isalpha isdigit islower isspace
isupper items join keys ljust lower lstrip partition pop remove replace reverse rfind rjust rpartition rsplit rstrip
setdefault split splitlines startswith strip update upper values zfill bit_length'''.split())

SPECIAL = set('__init__ __eq__ __repr__ __str__ __len__ __enter__ __exit__ __call__ __iter__ __contains__'.split())

BARRED_NODES = (ast.Set, ast.AsyncFunctionDef, ast.Await, ast.AsyncFor, ast.AsyncWith, ast.Global, ast.GeneratorExp,
                ast.Div, ast.Import, ast.TryStar, ast.Yield, ast.YieldFrom, ast.MatMult)

BARRED_WORDS = '''type typing typing_extensions enum Enum IntEnum StrEnum Flag IntFlag Generic Protocol ABC ABCMeta
namedtuple NamedTuple TypedDict TYPE_CHECKING abstractmethod register mro elements open input law version_info
with_traceback add_note _wall _WallAttr eval exec compile globals locals vars dir id hash super getattr setattr
hasattr delattr'''.split()

EXIT_ROW = re.compile(r'return( None| False)?|bench = self\.bench|(self|bench)\.\w+ = (self|bench)\.\w+')

# As classes here have __eq__ and __len__, no attribute is asked alone.
EXIT_TEST = re.compile(r'kind is None|(self|bench)\.\w+ is (not )?None')


def trees():
    for path in sorted(PACKAGE.glob('*.py')):
        text = path.read_text(encoding='utf-8')
        yield path.name, text, ast.parse(text)


def bare(tree):
    """The tree as text, without comments and docstrings."""
    for node in ast.walk(tree):
        if isinstance(node, (ast.Module, ast.ClassDef, ast.FunctionDef)) and ast.get_docstring(node) is not None:
            node.body = node.body[1:] or [ast.Pass()]
    return ast.unparse(tree)


def bound_names(tree):
    """All names that a file gives to variables, parameters, functions and classes."""
    for node in ast.walk(tree):
        if isinstance(node, ast.Name) and isinstance(node.ctx, ast.Store):
            yield node.id
        elif isinstance(node, ast.arg):
            yield node.arg
        elif isinstance(node, (ast.FunctionDef, ast.ClassDef)):
            yield node.name
        elif isinstance(node, ast.ExceptHandler) and node.name:
            yield node.name


def tests_joined(test):
    """What a test asks one by one, without what joins it."""
    if isinstance(test, ast.BoolOp):
        return [part for value in test.values for part in tests_joined(value)]
    if isinstance(test, ast.UnaryOp) and isinstance(test.op, ast.Not):
        return tests_joined(test.operand)
    return [test]


def wrong_rows(rows):
    """The rows that cannot stand in an __exit__, and what an if there cannot ask."""
    found = []
    for row in rows:
        if isinstance(row, ast.If):
            asked = [ast.unparse(part) for part in tests_joined(row.test)]
            found += [text for text in asked if not EXIT_TEST.fullmatch(text)]
            found += wrong_rows(row.body + row.orelse)
        elif not EXIT_ROW.fullmatch(ast.unparse(row)):
            found.append(ast.unparse(row))
    return found


def wrong_in_exits(tree):
    return [text for node in ast.walk(tree) if isinstance(node, ast.FunctionDef) and node.name == '__exit__'
            for text in wrong_rows(node.body)]


class LanguageTest(unittest.TestCase):

    def test_files(self):
        for path in PACKAGE.iterdir():
            if path.name != '__pycache__':
                self.assertRegex(path.name, '^[a-z_]+[.]py$')
        for name, text, _ in trees():
            with self.subTest(name):
                lines = text.split('\n')
                self.assertLessEqual(len(lines), 400)
                self.assertLessEqual(max(len(line) for line in lines), 120)
                self.assertIsNone(re.search('[^ -~\n]', text))
                self.assertNotIn('%', bare(ast.parse(text)))

    def test_functions_are_at_most_40_lines(self):
        for name, _, tree in trees():
            for node in ast.walk(tree):
                if isinstance(node, ast.FunctionDef):
                    with self.subTest(name, function=node.name):
                        self.assertLessEqual(node.end_lineno - node.lineno + 1, 40)
                        self.assertEqual([ast.unparse(row) for row in node.decorator_list], [])

    def test_imports_are_of_the_package_and_name_the_file_that_defines(self):
        for name, _, tree in trees():
            for node in ast.walk(tree):
                if isinstance(node, ast.ImportFrom):
                    with self.subTest(name, module=node.module):
                        self.assertIn(node, tree.body)
                        self.assertTrue(node.module.startswith('everymoment.') and node.level == 0)
                        file = ast.parse((PACKAGE / (node.module.split('.')[1] + '.py')).read_text(encoding='utf-8'))
                        own = [row.name for row in file.body if isinstance(row, (ast.FunctionDef, ast.ClassDef))]
                        own += [row.targets[0].id for row in file.body if isinstance(row, ast.Assign)]
                        self.assertLessEqual({row.name for row in node.names}, set(own))

    def test_no_two_files_import_from_each_other(self):
        known = {name[:-3]: [row.module.split('.')[1] for row in tree.body if isinstance(row, ast.ImportFrom)]
                 for name, _, tree in trees()}
        while known:
            free = [name for name, wanted in known.items() if not set(wanted) & set(known)]
            self.assertTrue(free, known)
            for name in free:
                del known[name]

    def test_module_level(self):
        kinds = (ast.ImportFrom, ast.FunctionDef, ast.ClassDef, ast.Assign)
        for name, _, tree in trees():
            for node in tree.body:
                with self.subTest(name, line=node.lineno):
                    is_docstring = node is tree.body[0] and isinstance(node, ast.Expr)
                    self.assertTrue(is_docstring or isinstance(node, kinds))

    def test_no_statement_or_sign_outside_the_subset(self):
        for name, _, tree in trees():
            for node in ast.walk(tree):
                if isinstance(node, BARRED_NODES) or isinstance(node, ast.Constant):
                    with self.subTest(name, line=node.lineno):
                        self.assertNotIsInstance(node, BARRED_NODES)
                        self.assertNotIsInstance(node.value, float)
                if isinstance(node, ast.ExceptHandler):
                    self.assertIsNotNone(node.type, name)
                if isinstance(node, ast.Compare) and any(isinstance(sign, (ast.Is, ast.IsNot)) for sign in node.ops):
                    self.assertIn(ast.unparse(node.comparators[-1]), ('None', 'True', 'False'), name)

    def test_what_stands_in_exits(self):
        for name, _, tree in trees():
            self.assertEqual(wrong_in_exits(tree), [], name)

    def test_what_is_wrong_in_exits_is_told(self):
        begun = 'class C:\n    def __exit__(self, kind, value, trace):\n        bench = self.bench\n        '
        for row in ('return', 'return False', 'bench.many = self.many', 'if kind is None and self.was is not None:\n'
                    '            return\n        else:\n            bench.many = self.many'):
            self.assertEqual(wrong_in_exits(ast.parse(begun + row)), [], row)
        for test in ('self.was', 'not self.was', 'kind', 'self.was == 1', 'kind is not None', 'value is None',
                     'self.was is True', 'self.was() is None'):
            for joined in (test, 'kind is None and (self.was is None or ' + test + ')'):
                tree = ast.parse(begun + 'if ' + joined + ':\n            return')
                self.assertEqual(wrong_in_exits(tree), [ast.unparse(ast.parse(test.removeprefix('not ')))], joined)
        for row in ('return True', 'bench.many = value', 'bench.undo()', 'bench.many = bench.many * 2', 'raise',
                    'bench.rows[0] = self.many'):
            self.assertEqual(wrong_in_exits(ast.parse(begun + row)), [row])
            self.assertEqual(wrong_in_exits(ast.parse(begun + 'if kind is None:\n            ' + row)), [row])

    def test_words_that_are_not_used(self):
        for name, _, tree in trees():
            words = set(re.findall('[A-Za-z_][A-Za-z_0-9]*', bare(tree)))
            self.assertEqual(words & set(BARRED_WORDS), set(), name)

    def test_builtins_and_methods(self):
        own = set()
        for _, _, tree in trees():
            own |= {node.name for node in ast.walk(tree) if isinstance(node, (ast.FunctionDef, ast.ClassDef))}
        for name, _, tree in trees():
            bound = set(bound_names(tree))
            bound |= {row.name for node in tree.body if isinstance(node, ast.ImportFrom) for row in node.names}
            for node in ast.walk(tree):
                with self.subTest(name, line=getattr(node, 'lineno', 0)):
                    if isinstance(node, ast.Name) and isinstance(node.ctx, ast.Load):
                        self.assertTrue(node.id in BUILTINS or node.id in bound, node.id)
                    if isinstance(node, ast.Call) and isinstance(node.func, ast.Attribute):
                        self.assertTrue(node.func.attr in METHODS or node.func.attr in own, node.func.attr)

    def test_names(self):
        for name, _, tree in trees():
            imports = {row.name for node in tree.body if isinstance(node, ast.ImportFrom) for row in node.names}
            classes = {node.name for node in tree.body if isinstance(node, ast.ClassDef)}
            # An example that was run elsewhere leaves its _ among the builtins.
            for bound in set(bound_names(tree)) - {'_'}:
                with self.subTest(name, bound=bound):
                    self.assertNotIn(bound, set(dir(builtins)) - SPECIAL | imports)
                    self.assertTrue(not bound.startswith('__') or bound in SPECIAL)
            for node in ast.walk(tree):
                if isinstance(node, ast.arg) or isinstance(node, ast.Name) and isinstance(node.ctx, ast.Store):
                    self.assertNotIn(node.arg if isinstance(node, ast.arg) else node.id, classes, name)

    def test_no_name_is_bound_twice_at_module_level(self):
        for name, _, tree in trees():
            found = [node.name for node in tree.body if isinstance(node, (ast.FunctionDef, ast.ClassDef))]
            found += [row.name for node in tree.body if isinstance(node, ast.ImportFrom) for row in node.names]
            found += [target.id for node in tree.body if isinstance(node, ast.Assign) for target in node.targets]
            self.assertEqual(len(found), len(set(found)), name)

    def test_sets_are_only_measured_sorted_or_asked(self):
        for name, _, tree in trees():
            for node in ast.walk(tree):
                if isinstance(node, ast.Call) and ast.unparse(node.func) == 'set':
                    self.assertTrue(any(isinstance(outer, ast.Call) and node in outer.args
                                        and ast.unparse(outer.func) in ('len', 'sorted') for outer in ast.walk(tree)),
                                    (name, node.lineno))


if __name__ == '__main__':
    unittest.main()
