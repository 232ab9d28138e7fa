"""The plainest rules of the language subset, checked on every file of the package."""

import ast
import builtins
import pathlib
import unittest

FOLDER = pathlib.Path(__file__).resolve().parent.parent / "millsluices"
PACKAGE = FOLDER.name
FILES = sorted(FOLDER.glob("*.py"))

# Parameters that have objects with a `__call__` as their values.
CALLED_OBJECTS = {"plan"}

# What may be imported from elsewhere.
LIBRARY = {"heapq": {"heappush", "heappop"}, "math": {"gcd"}}

BUILTINS = set(("len range enumerate zip min max sum abs sorted reversed int str bool bytes list tuple dict set isinstance "
                "ord repr any all divmod iter super property staticmethod ValueError").split())
BUILTIN_METHODS = set(("append bit_length clear copy count endswith extend find get index insert items join keys pop replace "
                       "reverse setdefault split startswith strip update values zfill").split())
STATEMENTS = (ast.FunctionDef, ast.ClassDef, ast.Return, ast.Assign, ast.AugAssign, ast.For, ast.While, ast.If,
              ast.Raise, ast.Expr, ast.Pass, ast.Break, ast.Continue, ast.ImportFrom, ast.Assert, ast.Delete,
              ast.Try, ast.With)
BARRED_NAMES = set(("register mro elements open input law version_info with_traceback add_note attrgetter breakpoint "
                    "compile copyright credits delattr dir eval exec exit gc globals hasattr help id license locals "
                    "os quit setattr sys type vars").split())
BARRED_WORDS = ("type", "typing", "enum", "Enum", "Flag", "Generic", "Protocol", "ABC", "namedtuple", "NamedTuple",
                "TypedDict", "abstractmethod", "dataclass", "overload", "contextmanager", "_wall", "_WallAttr")
DUNDERS = set(("__init__ __eq__ __len__ __iter__ __contains__ __add__ __and__ __or__ __call__ __enter__ "
               "__exit__").split())


def scopes(tree):
    return [node for node in ast.walk(tree) if isinstance(node, ast.FunctionDef)]


def assigned(function):
    """The names of the parameters and of all variables outside of comprehensions."""
    args = function.args
    names = [arg.arg for arg in (*args.posonlyargs, *args.args, *args.kwonlyargs)]
    names += [arg.arg for arg in (args.vararg, args.kwarg) if arg]
    inner = {id(name) for node in ast.walk(function) if isinstance(node, ast.comprehension)
             for name in ast.walk(node.target)}
    return names + [node.id for node in ast.walk(function)
                    if isinstance(node, ast.Name) and isinstance(node.ctx, ast.Store) and id(node) not in inner]


def comprehended(function):
    return [name.id for node in ast.walk(function) if isinstance(node, ast.comprehension)
            for name in ast.walk(node.target) if isinstance(name, ast.Name)]


def is_plain(node):
    if isinstance(node, (ast.Tuple, ast.List)):
        return all(is_plain(item) for item in node.elts)
    return isinstance(node, ast.Constant)


def without_docstrings(tree):
    for node in ast.walk(tree):
        if isinstance(node, (ast.Module, ast.ClassDef, ast.FunctionDef)) and ast.get_docstring(node) is not None:
            node.body[0].value.value = ""
    return ast.unparse(tree)


class LanguageTest(unittest.TestCase):
    def setUp(self):
        self.trees = {path.stem: ast.parse(path.read_text("ascii")) for path in FILES}
        self.methods = {node.name for tree in self.trees.values() for kind in ast.walk(tree)
                        if isinstance(kind, ast.ClassDef) for node in kind.body if isinstance(node, ast.FunctionDef)}

    def each(self, kind):
        return [(f"{stem}:{node.lineno}", node) for stem, tree in self.trees.items() for node in ast.walk(tree)
                if isinstance(node, kind)]

    def test_folder(self):
        self.assertTrue(len(FILES) > 1)
        others = [path.name for path in FOLDER.iterdir() if path not in FILES and path.name != "__pycache__"]
        self.assertEqual(others, [])

    def test_size_and_characters(self):
        for path in FILES:
            lines = path.read_text("ascii").split("\n")
            with self.subTest(path.name):
                self.assertTrue(len(lines) <= 399)
                self.assertTrue(all(len(line) <= 120 and line == line.rstrip() for line in lines))
                self.assertTrue(all(" " <= letter <= "~" for line in lines for letter in line))
        for where, node in self.each(ast.FunctionDef):
            self.assertTrue(node.end_lineno - node.lineno < 40, where)

    def test_imports_name_the_file_that_defines_the_name(self):
        for where, node in self.each(ast.ImportFrom):
            if node.module in LIBRARY:
                self.assertTrue({alias.name for alias in node.names} <= LIBRARY[node.module], where)
                continue
            self.assertEqual((node.module.split(".")[0], node.level), (PACKAGE, 0), where)
            source = self.trees[node.module.split(".")[1]]
            defined = {item.name for item in source.body if isinstance(item, (ast.FunctionDef, ast.ClassDef))}
            for alias in node.names:
                self.assertTrue(alias.name in defined and alias.asname is None, (where, alias.name))

    def test_no_circle_of_imports(self):
        needs = {stem: {node.module.split(".")[1] for node in ast.walk(tree)
                        if isinstance(node, ast.ImportFrom) and node.module not in LIBRARY}
                 for stem, tree in self.trees.items()}
        while needs:
            free = [stem for stem, others in needs.items() if not others & set(needs)]
            self.assertTrue(free, needs)
            for stem in free:
                del needs[stem]

    def test_no_import_is_idle(self):
        for stem, tree in self.trees.items():
            used = {node.id for node in ast.walk(tree) if isinstance(node, ast.Name)}
            for node in tree.body:
                if isinstance(node, ast.ImportFrom):
                    for alias in node.names:
                        self.assertTrue(alias.name in used, (stem, alias.name))

    def test_module_level(self):
        for stem, tree in self.trees.items():
            self.assertIsNotNone(ast.get_docstring(tree), stem)
            names = []
            for node in tree.body[1:]:
                self.assertIsInstance(node, (ast.ImportFrom, ast.FunctionDef, ast.ClassDef, ast.Assign), stem)
                if isinstance(node, ast.Assign):
                    self.assertTrue(is_plain(node.value) and len(node.targets) == 1, stem)
                    names.append(node.targets[0].id)
                elif isinstance(node, ast.ImportFrom):
                    names += [alias.name for alias in node.names]
                else:
                    names.append(node.name)
            self.assertEqual(len(names), len(set(names)), stem)

    def test_statements_and_expressions(self):
        for where, node in self.each(ast.stmt):
            self.assertIsInstance(node, STATEMENTS, where)
        barred = (ast.GeneratorExp, ast.Lambda, ast.Set, ast.SetComp, ast.Await, ast.NamedExpr, ast.Div, ast.MatMult,
                  ast.YieldFrom)
        for stem, tree in self.trees.items():
            for node in ast.walk(tree):
                self.assertNotIsInstance(node, barred, (stem, getattr(node, "lineno", 0)))
        for where, node in self.each(ast.Constant):
            self.assertNotIsInstance(node.value, (float, complex, bytes), where)
            if isinstance(node.value, str):
                self.assertFalse("\x25" in node.value, where)
        for where, node in self.each(ast.Compare):
            if any(isinstance(sign, (ast.Is, ast.IsNot)) for sign in node.ops):
                self.assertTrue(any(isinstance(side, ast.Constant) and side.value in (None, True, False)
                                    for side in (node.left, *node.comparators)), where)

    def test_no_star_in_an_index(self):
        for where, node in self.each(ast.Subscript):
            self.assertFalse(any(isinstance(item, ast.Starred) for item in ast.walk(node.slice)), where)

    def test_exponents(self):
        for where, node in self.each(ast.BinOp):
            if isinstance(node.op, ast.Pow):
                self.assertTrue(isinstance(node.right, ast.Constant) and node.right.value in range(65), where)

    def test_decorators_and_annotations(self):
        for where, node in self.each(ast.FunctionDef):
            self.assertTrue(all(isinstance(word, ast.Name) and word.id in ("property", "staticmethod")
                                for word in node.decorator_list), where)
            self.assertIsNone(node.returns, where)
            self.assertTrue(all(isinstance(item, ast.Constant) or isinstance(item, ast.Tuple) and not item.elts
                                for item in (*node.args.defaults, *node.args.kw_defaults) if item is not None), where)
            if node.name.startswith("__"):
                self.assertTrue(node.name in DUNDERS, where)

    def test_called_names(self):
        for stem, tree in self.trees.items():
            here = {item.name for item in tree.body if isinstance(item, (ast.FunctionDef, ast.ClassDef))}
            here |= {alias.name for node in tree.body if isinstance(node, ast.ImportFrom) for alias in node.names}
            for node in ast.walk(tree):
                if isinstance(node, ast.Call) and isinstance(node.func, ast.Name):
                    self.assertTrue(node.func.id in here | BUILTINS | CALLED_OBJECTS, (stem, node.func.id))
                elif isinstance(node, ast.Call):
                    self.assertIsInstance(node.func, ast.Attribute)
                    self.assertTrue(node.func.attr in BUILTIN_METHODS | self.methods, (stem, node.func.attr))

    def test_names(self):
        for stem, tree in self.trees.items():
            taken = {alias.name for node in tree.body if isinstance(node, ast.ImportFrom) for alias in node.names}
            taken |= {item.name for item in tree.body if isinstance(item, (ast.FunctionDef, ast.ClassDef))}
            for function in scopes(tree):
                variables = set(assigned(function)) | set(comprehended(function))
                where = (stem, function.name)
                self.assertEqual(variables & (taken | set(dir(builtins)) | BARRED_NAMES), set(), where)
                self.assertEqual(set(assigned(function)) & set(comprehended(function)) - {"_"}, set(), where)
                self.assertFalse(function.name in dir(builtins), where)
                self.assertFalse(function.name in BARRED_NAMES, where)

    def test_only_own_errors_are_caught(self):
        own = {node.name for node in self.trees["errors"].body if isinstance(node, ast.ClassDef)}
        for where, node in self.each(ast.ExceptHandler):
            self.assertTrue(isinstance(node.type, ast.Name) and node.type.id in own and node.name is None, where)
        for where, node in self.each(ast.Try):
            self.assertEqual(node.finalbody, [], where)

    def test_blocks_end_by_plain_assignments_alone(self):
        for where, node in self.each(ast.FunctionDef):
            if node.name == "__exit__":
                self.assertEqual([arg.arg for arg in node.args.args], ["self", "kind", "value", "trace"], where)
                for row in node.body:
                    self.assertTrue(isinstance(row, ast.Assign) and isinstance(row.value, ast.Attribute), where)

    def test_underscore_is_not_read(self):
        for where, node in self.each(ast.Name):
            self.assertFalse(node.id == "_" and isinstance(node.ctx, ast.Load), where)

    def test_words(self):
        for stem, tree in self.trees.items():
            text = without_docstrings(tree)
            words = {node.id for node in ast.walk(tree) if isinstance(node, ast.Name)}
            for word in BARRED_WORDS:
                self.assertFalse(word in words or f"{word}(" in text or f".{word}" in text, (stem, word))

    def test_no_generator_shares_its_name(self):
        makers = [node.name for _, node in self.each(ast.FunctionDef)
                  if any(isinstance(item, ast.Yield) for item in ast.walk(node))]
        names = [node.name for _, node in self.each(ast.FunctionDef)]
        for name in makers:
            self.assertEqual(names.count(name), 1, name)

    def test_classes(self):
        attributes, properties = set(), set()
        for _, kind in self.each(ast.ClassDef):
            own = {node.name for node in kind.body if isinstance(node, ast.FunctionDef)}
            mine = {node.attr for node in ast.walk(kind) if isinstance(node, ast.Attribute)
                    and isinstance(node.ctx, ast.Store)}
            self.assertEqual(own & mine, set(), kind.name)
            attributes |= mine
            properties |= {node.name for node in kind.body if isinstance(node, ast.FunctionDef)
                           and node.decorator_list}
        self.assertEqual(attributes & properties, set())


if __name__ == "__main__":
    unittest.main()
