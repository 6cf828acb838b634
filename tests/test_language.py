"""Some rules of the language that the package keeps to: those that are plainly seen in its files."""

import ast
import builtins
import os
import unittest

FOLDER = os.path.join(os.path.dirname(os.path.dirname(os.path.abspath(__file__))), "menuhouses")

BUILTINS = """len range enumerate zip min max sum abs sorted reversed int str bool bytes list tuple dict set frozenset
isinstance ord repr any all divmod pow getattr hasattr setattr iter next map property staticmethod classmethod super
Exception ValueError TypeError KeyError IndexError LookupError ZeroDivisionError ArithmeticError OverflowError
RuntimeError NotImplementedError AttributeError StopIteration NotImplemented""".split()

LIBRARY = {
    "heapq": "heappush heappop heapify heapreplace heappushpop".split(),
    "math": "gcd lcm isqrt comb perm factorial".split(),
    "itertools": "product combinations permutations chain accumulate pairwise islice zip_longest".split(),
    "collections": ["defaultdict"],
    "__future__": ["annotations"],
}

# Generator expressions are allowed, but hardly where a class has its own equality.
NOT_ALLOWED = (
    ast.Global, ast.AsyncFunctionDef, ast.AsyncFor, ast.AsyncWith, ast.Await, ast.Import, ast.Div, ast.TryStar,
    ast.GeneratorExp,
)


def files():
    """The names of the files of the package and their texts."""
    found = {}
    for name in sorted(os.listdir(FOLDER)):
        if name != "__pycache__":
            with open(os.path.join(FOLDER, name), encoding="utf-8", newline="") as file:
                found[name] = file.read()
    return found


def nodes(kinds):
    """The parts of these kinds of all files, each with the name of its file."""
    return [(name, node) for name, text in files().items() for node in ast.walk(ast.parse(text))
            if isinstance(node, kinds)]


def stored():
    """The names of all attributes that are assigned, each with its file and row."""
    return [(node.attr, (name, node.lineno)) for name, node in nodes(ast.Attribute) if isinstance(node.ctx, ast.Store)]


def signs():
    """What stands over methods: the name of the method and the decorator."""
    return [(row.name, ast.unparse(sign)) for _, row in nodes(ast.FunctionDef) for sign in row.decorator_list]


def defined(text):
    """The names that a file binds itself."""
    rows = ast.parse(text).body
    named = [row.name for row in rows if isinstance(row, (ast.FunctionDef, ast.ClassDef))]
    return named + [row.targets[0].id for row in rows if isinstance(row, ast.Assign)]


class Language(unittest.TestCase):
    def test_the_folder_holds_plain_files_alone(self):
        self.assertIn("__init__.py", files())
        for name in files():
            self.assertRegex(name, r"\A[a-z_][a-z0-9_]*\.py\Z")

    def test_characters_rows_and_files(self):
        for name, text in files().items():
            self.assertEqual([sign for sign in text if sign != "\n" and not " " <= sign <= "~"], [], name)
            self.assertLessEqual(len(text.split("\n")), 399, name)
            self.assertLessEqual(max(len(row) for row in text.split("\n")), 120, name)

    def test_functions_are_small(self):
        for name, node in nodes(ast.FunctionDef):
            self.assertLessEqual(node.end_lineno - node.lineno + 1, 40, (name, node.name))

    def test_imports_name_the_files_that_define(self):
        for name, node in nodes(ast.ImportFrom):
            self.assertEqual(node.level, 0, name)
            words = [each.name for each in node.names]
            if node.module in LIBRARY:
                self.assertEqual([word for word in words if word not in LIBRARY[node.module]], [], name)
            else:
                package, file = node.module.split(".")
                self.assertEqual(package, "menuhouses", name)
                own = defined(files()[file + ".py"])
                self.assertEqual([word for word in words if word not in own], [], name)

    def test_files_do_not_import_each_other(self):
        left = {name: {node.module.split(".")[-1] + ".py" for other, node in nodes(ast.ImportFrom)
                       if other == name and node.module not in LIBRARY} for name in files()}
        while left:
            free = [name for name, needs in left.items() if not needs & set(left)]
            self.assertNotEqual(free, [], sorted(left))
            left = {name: needs for name, needs in left.items() if name not in free}

    def test_builtins(self):
        for name, node in nodes(ast.Name):
            if hasattr(builtins, node.id):
                self.assertIn(node.id, BUILTINS, (name, node.lineno))
                self.assertIsInstance(node.ctx, ast.Load, (name, node.lineno))

    def test_statements_and_signs(self):
        self.assertEqual([(name, node) for name, node in nodes(NOT_ALLOWED)], [])

    def test_no_property_has_the_name_of_what_is_stored(self):
        # Operators raise errors, and these store attributes: no setter may take what an operator stores.
        properties = [name for name, sign in signs() if sign == "property"]
        self.assertIn("marks", properties)
        self.assertIn("menu", [name for name, _ in stored()])
        self.assertEqual([each for each in stored() if each[0] in properties], [])

    def test_there_are_no_setters(self):
        self.assertEqual({sign for _, sign in signs()}, {"property", "classmethod", "staticmethod"})

    def test_no_method_is_called_by_a_name_that_is_stored(self):
        # LANGUAGE.md bars this only in what operators and properties run; the package does it nowhere.
        names = {name for name, _ in stored()}
        self.assertIn("index", names)
        for name, node in nodes(ast.Call):
            if isinstance(node.func, ast.Attribute):
                self.assertNotIn(node.func.attr, names, (name, node.lineno))

    def test_objects_change_in_few_places(self):
        # All else is run by operators and properties or could be, and these change nothing.
        for name, text in files().items():
            for node in ast.walk(ast.parse(text)):
                if isinstance(node, ast.FunctionDef):
                    changed = [each.attr for each in ast.walk(node)
                               if isinstance(each, ast.Attribute) and not isinstance(each.ctx, ast.Load)]
                    if node.name not in ("__init__", "__enter__", "__exit__"):
                        self.assertIn((name, changed), [(name, []), ("books.py", ["_states"])], node.name)

    def test_no_method_is_read_off_a_class(self):
        classes = {node.name for _, node in nodes(ast.ClassDef)}
        for name, node in nodes(ast.Attribute):
            if isinstance(node.value, ast.Name):
                self.assertNotIn(node.value.id, classes, (name, node.lineno))

    def test_classes_with_indexes_are_not_iterated(self):
        for name, node in nodes(ast.ClassDef):
            methods = [row.name for row in node.body if isinstance(row, ast.FunctionDef)]
            self.assertEqual("__getitem__" in methods, "__iter__" in methods, (name, node.name))

    def test_values(self):
        for name, node in nodes(ast.Constant):
            self.assertNotIsInstance(node.value, (float, complex), (name, node.lineno))
            if isinstance(node.value, str):
                self.assertNotIn("%", node.value, (name, node.lineno))


if __name__ == "__main__":
    unittest.main()
