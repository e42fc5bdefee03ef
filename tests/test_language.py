"""The subset of Python in which the package is written: those rules that can be seen by a look at the code."""

import ast
import builtins
import os
import re
import unittest

PACKAGE = os.path.join(os.path.dirname(os.path.dirname(os.path.abspath(__file__))), "earlyorlate")

LIBRARY = {
    "heapq": {"heappush", "heappop", "heapify", "heapreplace", "heappushpop"},
    "math": {"gcd", "lcm", "isqrt", "comb", "perm", "factorial"},
    "itertools": {"product", "combinations", "permutations", "chain", "accumulate", "pairwise", "islice",
                  "zip_longest"},
    "collections": {"defaultdict"},
}

BUILTINS = set("""
    len range enumerate zip min max sum abs sorted reversed int str bool bytes list tuple dict set frozenset isinstance
    ord repr any all divmod pow getattr hasattr setattr iter next map super property staticmethod classmethod
    Exception ValueError TypeError KeyError IndexError LookupError ZeroDivisionError ArithmeticError OverflowError
    RuntimeError NotImplementedError AttributeError StopIteration NotImplemented object
""".split())

METHODS = set("""
    append clear copy count endswith extend find get index insert isalnum isalpha isdigit islower isspace isupper items
    join keys ljust lower lstrip partition pop remove replace reverse rfind rjust rpartition rsplit rstrip setdefault
    split splitlines startswith strip update upper values zfill bit_length title capitalize swapcase casefold center
    expandtabs removeprefix removesuffix rindex isascii isdecimal isnumeric istitle isidentifier isprintable add discard
    format setter __init__
""".split())

DOUBLE = set("__init__ __eq__ __repr__ __str__ __len__ __enter__ __exit__ __call__ __iter__ __contains__ __getitem__"
             .split())

BARRED_NODES = (ast.Global, ast.AsyncFunctionDef, ast.AsyncFor, ast.AsyncWith, ast.Await, ast.Div, ast.MatMult,
                ast.Import)

# Rule L17: in no place, and nowhere but in comments and docstrings.
BARRED_NAMES = {"register", "mro", "elements", "open", "input", "law", "version_info", "with_traceback", "add_note"}
BARRED_WORDS = re.compile(r"\b(type|typing|typing_extensions|enum|Enum|IntEnum|StrEnum|Flag|IntFlag|Generic|Protocol|ABC"
                          r"|ABCMeta|namedtuple|NamedTuple|TypedDict|TYPE_CHECKING|abstractmethod)\b")


def sources():
    """The text of each file of the package, by its name."""
    found = {}
    for name in sorted(os.listdir(PACKAGE)):
        if name != "__pycache__":
            with open(os.path.join(PACKAGE, name), encoding="utf-8") as source:
                found[name] = source.read()
    return found


def trees():
    return {name: ast.parse(text) for name, text in sources().items()}


def nodes(kinds):
    """All (file, node) with a node of one of these kinds."""
    return [(name, node) for name, tree in trees().items() for node in ast.walk(tree) if isinstance(node, kinds)]


def bound_at_top(tree):
    """The names that a file binds at module level, those of its imports included."""
    names = []
    for row in tree.body:
        if isinstance(row, (ast.FunctionDef, ast.ClassDef)):
            names.append(row.name)
        elif isinstance(row, ast.Assign):
            names += [target.id for target in row.targets]
        elif isinstance(row, ast.ImportFrom):
            names += [alias.name for alias in row.names]
    return names


def is_docstring(row):
    return isinstance(row, ast.Expr) and isinstance(row.value, ast.Constant) and isinstance(row.value.value, str)


def imports_at_the_top(tree):
    """The imports ahead of all else but the docstring."""
    rows = tree.body[1:] if tree.body and is_docstring(tree.body[0]) else tree.body
    others = [at for at, row in enumerate(rows) if not isinstance(row, ast.ImportFrom)]
    return rows[:min(others, default=len(rows))]


class FilesTest(unittest.TestCase):
    def test_names_characters_and_sizes(self):
        found = sources()
        self.assertIn("__init__.py", found)
        for name, text in found.items():
            self.assertRegex(name, r"^(__init__|[a-z][a-z0-9_]*)\.py$")
            self.assertIsNone(re.search(r"[^ -~\n]", text), name)
            lines = text.split("\n")
            self.assertLessEqual(len(lines), 399, name)
            self.assertLessEqual(max(len(line) for line in lines), 120, name)

    def test_functions_are_short(self):
        for name, node in nodes(ast.FunctionDef):
            self.assertLessEqual(node.end_lineno - node.lineno + 1, 40, (name, node.name))

    def test_module_level(self):
        for name, tree in trees().items():
            for at, row in enumerate(tree.body):
                if at == 0 and is_docstring(row):
                    continue
                self.assertIsInstance(row, (ast.ImportFrom, ast.FunctionDef, ast.ClassDef, ast.Assign), name)
                if isinstance(row, ast.Assign):
                    self.assertEqual([target.__class__ for target in row.targets], [ast.Name], name)
            names = bound_at_top(tree)
            self.assertEqual(len(names), len(set(names)), name)


class ImportsTest(unittest.TestCase):
    def test_imports(self):
        found = trees()
        for name, tree in found.items():
            imports = [node for node in ast.walk(tree) if isinstance(node, ast.ImportFrom)]
            self.assertEqual(imports, imports_at_the_top(tree), name)
            for node in imports:
                self.check_import(name, node, found)

    def check_import(self, name, node, found):
        self.assertEqual(node.level, 0, name)
        self.assertTrue(all(alias.asname is None for alias in node.names), name)
        words = {alias.name for alias in node.names}
        if node.module in LIBRARY:
            self.assertLessEqual(words, LIBRARY[node.module], name)
            return
        package, _, file = node.module.partition(".")
        self.assertEqual(package, "earlyorlate", name)
        defined = [row for row in found[file + ".py"].body if not isinstance(row, ast.ImportFrom)]
        self.assertLessEqual(words, set(bound_at_top(ast.Module(defined, []))), name)

    def test_no_products_beside_an_object_with_a_length_that_is_iterated_over(self):
        methods = [{row.name for row in node.body if isinstance(row, ast.FunctionDef)}
                   for _, node in nodes(ast.ClassDef)]
        if any({"__len__", "__iter__"} <= own for own in methods):
            for name, node in nodes(ast.ImportFrom):
                self.assertFalse({"product", "combinations", "permutations"} & {row.name for row in node.names}, name)

    def test_imported_names_are_used(self):
        for name, tree in trees().items():
            used = {node.id for node in ast.walk(tree) if isinstance(node, ast.Name)}
            for row in tree.body:
                if isinstance(row, ast.ImportFrom):
                    self.assertLessEqual({alias.name for alias in row.names}, used, name)

    def test_no_two_files_import_from_each_other(self):
        left = {name: {row.module.split(".")[-1] + ".py" for row in tree.body if isinstance(row, ast.ImportFrom)
                       and row.module not in LIBRARY} for name, tree in trees().items()}
        while left:
            free = [name for name, needed in left.items() if not needed & set(left)]
            self.assertTrue(free, left)
            for name in free:
                del left[name]


class CodeTest(unittest.TestCase):
    def test_no_barred_statement_or_sign(self):
        self.assertEqual([(name, ast.dump(node)) for name, node in nodes(BARRED_NODES)], [])

    def test_constants(self):
        for name, node in nodes(ast.Constant):
            self.assertNotIsInstance(node.value, (float, complex), name)
            if isinstance(node.value, str):
                self.assertNotIn("%", node.value, name)

    def test_exponents_are_literals(self):
        for name, node in nodes(ast.BinOp):
            if isinstance(node.op, ast.Pow):
                self.assertIsInstance(node.right, ast.Constant, name)
                self.assertLessEqual(node.right.value, 64, name)

    def test_is_stands_beside_none_and_truths_alone(self):
        for name, node in nodes(ast.Compare):
            for op, right in zip(node.ops, node.comparators):
                if isinstance(op, (ast.Is, ast.IsNot)):
                    self.assertTrue(isinstance(right, ast.Constant) and right.value in (None, True, False), name)

    def test_decorators(self):
        for name, node in nodes((ast.FunctionDef, ast.ClassDef)):
            for decorator in node.decorator_list:
                self.assertRegex(ast.unparse(decorator), r"^(property|staticmethod|classmethod|\w+\.setter)$", name)

    def test_iterating_is_one_statement(self):
        for name, node in nodes(ast.FunctionDef):
            if node.name == "__iter__":
                rows = node.body[1:] if is_docstring(node.body[0]) else node.body
                self.assertRegex("".join(ast.unparse(row) for row in rows), r"^return iter\(self\.\w+\)$", name)

    def test_double_underscores(self):
        for name, node in nodes(ast.FunctionDef):
            if node.name.startswith("__"):
                self.assertIn(node.name, DOUBLE, name)

    def test_builtins(self):
        barred = set(dir(builtins)) - BUILTINS
        for name, node in nodes(ast.Name):
            self.assertNotIn(node.id, barred | BARRED_NAMES, name)
            if isinstance(node.ctx, ast.Store):
                self.assertNotIn(node.id, dir(builtins), name)
        for name, node in nodes(ast.arg):
            self.assertNotIn(node.arg, set(dir(builtins)) | BARRED_NAMES, name)

    def test_local_names_are_not_those_of_classes_and_imports(self):
        for name, tree in trees().items():
            taken = {row.name for row in tree.body if isinstance(row, ast.ClassDef)}
            taken |= {alias.name for row in tree.body if isinstance(row, ast.ImportFrom) for alias in row.names}
            for function in [node for node in ast.walk(tree) if isinstance(node, ast.FunctionDef)]:
                for node in ast.walk(function):
                    if isinstance(node, ast.arg):
                        self.assertNotIn(node.arg, taken, (name, function.name))
                    if isinstance(node, ast.Name) and isinstance(node.ctx, ast.Store):
                        self.assertNotIn(node.id, taken, (name, function.name))

    def test_methods(self):
        own = {node.name for name, node in nodes(ast.FunctionDef)}
        for name, node in nodes(ast.Call):
            if isinstance(node.func, ast.Attribute):
                self.assertIn(node.func.attr, METHODS | own, name)

    def test_generator_expressions_beside_a_class_with_its_own_equality(self):
        for name, node in nodes(ast.Call):
            if isinstance(node.func, ast.Name) and node.func.id in ("any", "all", "min", "max", "sum", "sorted"):
                for argument in node.args:
                    self.assertNotIsInstance(argument, ast.GeneratorExp, name)

    def test_words_that_stand_nowhere(self):
        for name, tree in trees().items():
            for node in ast.walk(tree):
                body = getattr(node, "body", None)
                if isinstance(body, list) and body and is_docstring(body[0]):
                    body[0].value.value = ""
            self.assertIsNone(BARRED_WORDS.search(ast.unparse(tree)), name)


if __name__ == "__main__":
    unittest.main()
