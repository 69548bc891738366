"""What can be told of ../shared/LANGUAGE.md by looking at the files of the package.

Here and there this is narrower than the rules are, as the package needs no more so far.
"""

import ast
import builtins
import pathlib
import re
import unittest

PACKAGE = pathlib.Path(__file__).parent.parent / 'everymoment'

BUILTINS = set('''len range enumerate zip min max sum abs sorted reversed int str bool bytes list tuple dict set
frozenset isinstance ord repr any all divmod Exception ValueError TypeError KeyError IndexError LookupError
ZeroDivisionError ArithmeticError OverflowError RuntimeError NotImplementedError'''.split())

METHODS = set('''append clear copy count endswith extend find get index insert isalnum isalpha isdigit islower isspace
isupper items join keys ljust lower lstrip partition pop remove replace reverse rfind rjust rpartition rsplit rstrip
setdefault split splitlines startswith strip update upper values zfill bit_length'''.split())

SPECIAL = set('__init__ __eq__ __repr__ __str__ __len__ __enter__ __exit__ __call__ __iter__ __contains__'.split())

BARRED_NODES = (ast.Set, ast.AsyncFunctionDef, ast.Await, ast.AsyncFor, ast.AsyncWith, ast.Global, ast.GeneratorExp,
                ast.Div, ast.Import, ast.TryStar, ast.Yield, ast.YieldFrom, ast.MatMult)

BARRED_WORDS = '''type typing typing_extensions enum Enum IntEnum StrEnum Flag IntFlag Generic Protocol ABC ABCMeta
namedtuple NamedTuple TypedDict TYPE_CHECKING abstractmethod register mro elements open input law version_info
with_traceback add_note _wall _WallAttr eval exec compile globals locals vars dir id hash super getattr setattr
hasattr delattr'''.split()


def trees():
    for path in sorted(PACKAGE.glob('*.py')):
        text = path.read_text(encoding='utf-8')
        yield path.name, text, ast.parse(text)


def bare(tree):
    """The tree as text, without comments and docstrings."""
    for node in ast.walk(tree):
        if isinstance(node, (ast.Module, ast.ClassDef, ast.FunctionDef)) and ast.get_docstring(node) is not None:
            node.body = node.body[1:] or [ast.Pass()]
    return ast.unparse(tree)


def bound_names(tree):
    """All names that a file gives to variables, parameters, functions and classes."""
    for node in ast.walk(tree):
        if isinstance(node, ast.Name) and isinstance(node.ctx, ast.Store):
            yield node.id
        elif isinstance(node, ast.arg):
            yield node.arg
        elif isinstance(node, (ast.FunctionDef, ast.ClassDef)):
            yield node.name
        elif isinstance(node, ast.ExceptHandler) and node.name:
            yield node.name


class LanguageTest(unittest.TestCase):

    def test_files(self):
        for path in PACKAGE.iterdir():
            if path.name != '__pycache__':
                self.assertRegex(path.name, '^[a-z_]+[.]py$')
        for name, text, _ in trees():
            with self.subTest(name):
                lines = text.split('\n')
                self.assertLessEqual(len(lines), 400)
                self.assertLessEqual(max(len(line) for line in lines), 120)
                self.assertIsNone(re.search('[^ -~\n]', text))
                self.assertNotIn('%', bare(ast.parse(text)))

    def test_functions_are_at_most_40_lines(self):
        for name, _, tree in trees():
            for node in ast.walk(tree):
                if isinstance(node, ast.FunctionDef):
                    with self.subTest(name, function=node.name):
                        self.assertLessEqual(node.end_lineno - node.lineno + 1, 40)
                        self.assertEqual([ast.unparse(row) for row in node.decorator_list], [])

    def test_imports_are_of_the_package_and_name_the_file_that_defines(self):
        for name, _, tree in trees():
            for node in ast.walk(tree):
                if isinstance(node, ast.ImportFrom):
                    with self.subTest(name, module=node.module):
                        self.assertIn(node, tree.body)
                        self.assertTrue(node.module.startswith('everymoment.') and node.level == 0)
                        file = ast.parse((PACKAGE / (node.module.split('.')[1] + '.py')).read_text(encoding='utf-8'))
                        own = [row.name for row in file.body if isinstance(row, (ast.FunctionDef, ast.ClassDef))]
                        own += [row.targets[0].id for row in file.body if isinstance(row, ast.Assign)]
                        self.assertLessEqual({row.name for row in node.names}, set(own))

    def test_no_two_files_import_from_each_other(self):
        known = {name[:-3]: [row.module.split('.')[1] for row in tree.body if isinstance(row, ast.ImportFrom)]
                 for name, _, tree in trees()}
        while known:
            free = [name for name, wanted in known.items() if not set(wanted) & set(known)]
            self.assertTrue(free, known)
            for name in free:
                del known[name]

    def test_module_level(self):
        kinds = (ast.ImportFrom, ast.FunctionDef, ast.ClassDef, ast.Assign)
        for name, _, tree in trees():
            for node in tree.body:
                with self.subTest(name, line=node.lineno):
                    is_docstring = node is tree.body[0] and isinstance(node, ast.Expr)
                    self.assertTrue(is_docstring or isinstance(node, kinds))

    def test_no_statement_or_sign_outside_the_subset(self):
        for name, _, tree in trees():
            for node in ast.walk(tree):
                if isinstance(node, BARRED_NODES) or isinstance(node, ast.Constant):
                    with self.subTest(name, line=node.lineno):
                        self.assertNotIsInstance(node, BARRED_NODES)
                        self.assertNotIsInstance(node.value, float)
                if isinstance(node, ast.ExceptHandler):
                    self.assertIsNotNone(node.type, name)
                if isinstance(node, ast.Compare) and any(isinstance(sign, (ast.Is, ast.IsNot)) for sign in node.ops):
                    self.assertIn(ast.unparse(node.comparators[-1]), ('None', 'True', 'False'), name)

    def test_what_stands_in_exits(self):
        for name, _, tree in trees():
            for node in ast.walk(tree):
                if isinstance(node, ast.FunctionDef) and node.name == '__exit__':
                    kinds = (ast.FunctionDef, ast.arguments, ast.arg, ast.Assign, ast.If, ast.BoolOp, ast.UnaryOp,
                             ast.Compare, ast.Attribute, ast.Name, ast.Constant, ast.expr_context, ast.boolop,
                             ast.unaryop, ast.cmpop)
                    for inner in ast.walk(node):
                        self.assertIsInstance(inner, kinds, name)
                        if isinstance(inner, ast.Name):
                            self.assertIn(inner.id, ('self', 'kind', 'bench'), name)

    def test_words_that_are_not_used(self):
        for name, _, tree in trees():
            words = set(re.findall('[A-Za-z_][A-Za-z_0-9]*', bare(tree)))
            self.assertEqual(words & set(BARRED_WORDS), set(), name)

    def test_builtins_and_methods(self):
        own = set()
        for _, _, tree in trees():
            own |= {node.name for node in ast.walk(tree) if isinstance(node, (ast.FunctionDef, ast.ClassDef))}
        for name, _, tree in trees():
            bound = set(bound_names(tree))
            bound |= {row.name for node in tree.body if isinstance(node, ast.ImportFrom) for row in node.names}
            for node in ast.walk(tree):
                with self.subTest(name, line=getattr(node, 'lineno', 0)):
                    if isinstance(node, ast.Name) and isinstance(node.ctx, ast.Load):
                        self.assertTrue(node.id in BUILTINS or node.id in bound, node.id)
                    if isinstance(node, ast.Call) and isinstance(node.func, ast.Attribute):
                        self.assertTrue(node.func.attr in METHODS or node.func.attr in own, node.func.attr)

    def test_names(self):
        for name, _, tree in trees():
            imports = {row.name for node in tree.body if isinstance(node, ast.ImportFrom) for row in node.names}
            classes = {node.name for node in tree.body if isinstance(node, ast.ClassDef)}
            # An example that was run elsewhere leaves its _ among the builtins.
            for bound in set(bound_names(tree)) - {'_'}:
                with self.subTest(name, bound=bound):
                    self.assertNotIn(bound, set(dir(builtins)) - SPECIAL | imports)
                    self.assertTrue(not bound.startswith('__') or bound in SPECIAL)
            for node in ast.walk(tree):
                if isinstance(node, ast.arg) or isinstance(node, ast.Name) and isinstance(node.ctx, ast.Store):
                    self.assertNotIn(node.arg if isinstance(node, ast.arg) else node.id, classes, name)

    def test_no_name_is_bound_twice_at_module_level(self):
        for name, _, tree in trees():
            found = [node.name for node in tree.body if isinstance(node, (ast.FunctionDef, ast.ClassDef))]
            found += [row.name for node in tree.body if isinstance(node, ast.ImportFrom) for row in node.names]
            found += [target.id for node in tree.body if isinstance(node, ast.Assign) for target in node.targets]
            self.assertEqual(len(found), len(set(found)), name)

    def test_sets_are_only_measured_sorted_or_asked(self):
        for name, _, tree in trees():
            for node in ast.walk(tree):
                if isinstance(node, ast.Call) and ast.unparse(node.func) == 'set':
                    self.assertTrue(any(isinstance(outer, ast.Call) and node in outer.args
                                        and ast.unparse(outer.func) in ('len', 'sorted') for outer in ast.walk(tree)),
                                    (name, node.lineno))


if __name__ == '__main__':
    unittest.main()
