"""Checks the rules of the language subset that can be read off the code."""

import ast
import builtins
import keyword
import pathlib
import re
import unittest

PACKAGE = pathlib.Path(__file__).resolve().parent.parent / "widthmix"
BUILTINS = set(
    "len range enumerate zip min max sum abs sorted reversed int str bool bytes list tuple dict set isinstance ord repr"
    " any all divmod iter next property staticmethod classmethod super NotImplemented Exception ValueError TypeError"
    " KeyError IndexError LookupError ZeroDivisionError ArithmeticError OverflowError RuntimeError NotImplementedError"
    " AttributeError StopIteration".split()
)
METHODS = set(
    "append clear copy count endswith extend find get index insert isalnum isalpha isdigit islower isspace isupper items"
    " join keys ljust lower lstrip partition pop remove replace reverse rfind rjust rpartition rsplit rstrip setdefault"
    " split splitlines startswith strip update upper values zfill bit_length sort add discard title capitalize isascii"
    " isdecimal __init__".split()
)
WORDS = (
    "type typing typing_extensions enum Enum IntEnum StrEnum Flag IntFlag Generic Protocol ABC ABCMeta namedtuple"
    " NamedTuple TypedDict TYPE_CHECKING abstractmethod".split()
)
BARRED_NAMES = set(
    "register mro elements open input law version_info with_traceback add_note attrgetter breakpoint builtins compile"
    " copyright credits delattr dir eval exec exit gc getattr globals hasattr help id importlib license locals"
    " methodcaller os quit setattr type vars sys".split()
)
SPECIAL_METHODS = set("__init__ __eq__ __repr__ __str__ __len__ __enter__ __exit__ __call__ __iter__".split())
BARRED_NODES = (
    ast.Global, ast.AsyncFunctionDef, ast.AsyncFor, ast.AsyncWith, ast.Await, ast.Div, ast.MatMult, ast.Import,
)
MODULE_NODES = (ast.ImportFrom, ast.FunctionDef, ast.ClassDef, ast.Assign, ast.Expr)


def sources():
    return {path.stem: path.read_text(encoding="utf-8") for path in sorted(PACKAGE.glob("*.py"))}


def trees():
    return {name: ast.parse(text) for name, text in sources().items()}


def nodes(kinds):
    for name, tree in trees().items():
        for node in ast.walk(tree):
            if isinstance(node, kinds):
                yield name, node


def bound_names(tree):
    """Return all names that a file binds anywhere, parameters and imports included."""
    names = []
    for node in ast.walk(tree):
        if isinstance(node, (ast.FunctionDef, ast.ClassDef)):
            names.append(node.name)
        elif isinstance(node, ast.arg):
            names.append(node.arg)
        elif isinstance(node, ast.alias):
            names.append(node.asname or node.name)
        elif isinstance(node, ast.Name) and not isinstance(node.ctx, ast.Load):
            names.append(node.id)
        elif isinstance(node, ast.ExceptHandler) and node.name:
            names.append(node.name)
    return names


def module_names(tree):
    names = []
    for node in tree.body:
        if isinstance(node, (ast.FunctionDef, ast.ClassDef)):
            names.append(node.name)
        elif isinstance(node, ast.ImportFrom):
            names.extend(alias.asname or alias.name for alias in node.names)
        elif isinstance(node, ast.Assign):
            names.extend(target.id for target in node.targets)
    return names


class FilesTest(unittest.TestCase):
    def test_folder(self):
        for path in PACKAGE.iterdir():
            if path.name != "__pycache__":
                self.assertRegex(path.name, r"^(__init__|__main__|[a-z][a-z0-9_]*)\.py$")
                self.assertFalse(path.stem in dir(builtins) or keyword.iskeyword(path.stem), path)

    def test_characters_and_sizes(self):
        for name, text in sources().items():
            self.assertRegex(text, r"\A[\n -~]*\n\Z", name)
            lines = text.split("\n")
            self.assertLessEqual(len(lines) - 1, 399, name)
            self.assertLessEqual(max(map(len, lines)), 120, name)

    def test_function_sizes(self):
        for name, node in nodes(ast.FunctionDef):
            self.assertLessEqual(node.end_lineno - node.lineno + 1, 40, (name, node.name))

    def test_words(self):
        for name, text in sources().items():
            for word in WORDS:
                self.assertIsNone(re.search(rf"\b{word}\b", text), (name, word))
            self.assertIsNone(re.search("dataclass|overload|contextmanager", text), name)


class ImportsTest(unittest.TestCase):
    def test_at_the_top(self):
        for name, tree in trees().items():
            imports = [node for node in ast.walk(tree) if isinstance(node, ast.ImportFrom)]
            rest = tree.body[1:] if ast.get_docstring(tree) else tree.body
            self.assertEqual(rest[:len(imports)], imports, name)

    def test_only_from_the_defining_file(self):
        files = trees()
        for name, node in nodes(ast.ImportFrom):
            package, _, module = node.module.partition(".")
            self.assertEqual((package, node.level), ("widthmix", 0), name)
            own = [item for item in files[module].body if not isinstance(item, ast.ImportFrom)]
            for alias in node.names:
                self.assertIn(alias.name, module_names(ast.Module(body=own, type_ignores=[])), name)

    def test_no_cycles(self):
        needs = {name: set() for name in sources()}
        for name, node in nodes(ast.ImportFrom):
            needs[name].add(node.module.partition(".")[2])
        while needs:
            free = [name for name in needs if not needs[name]]
            self.assertTrue(free, needs)
            needs = {name: needs[name] - set(free) for name in needs if name not in free}


class NamesTest(unittest.TestCase):
    def test_bound_names(self):
        for file_name, tree in trees().items():
            for name in bound_names(tree):
                if name in SPECIAL_METHODS:
                    continue
                self.assertRegex(name, r"^[A-Za-z][A-Za-z0-9_]*$", file_name)
                self.assertNotIn(name, dir(builtins), file_name)
                self.assertNotIn(name, BARRED_NAMES, file_name)

    def test_bound_once(self):
        for file_name, tree in trees().items():
            names = module_names(tree)
            self.assertEqual(sorted(set(names)), sorted(names), file_name)

    def test_no_local_name_of_an_import_or_class(self):
        for file_name, tree in trees().items():
            outer = {name for node in tree.body if isinstance(node, (ast.ImportFrom, ast.ClassDef))
                     for name in ([node.name] if isinstance(node, ast.ClassDef) else [a.name for a in node.names])}
            inner = [name for node in ast.walk(tree) if isinstance(node, ast.FunctionDef)
                     for part in node.body + [node.args]
                     for name in bound_names(ast.Module(body=[part], type_ignores=[]))]
            self.assertEqual(sorted(outer & set(inner)), [], file_name)

    def test_used_builtins(self):
        for file_name, tree in trees().items():
            own = set(bound_names(tree))
            for node in ast.walk(tree):
                if isinstance(node, ast.Name) and node.id not in own:
                    self.assertIn(node.id, BUILTINS, file_name)


class ExpressionsTest(unittest.TestCase):
    def test_module_level(self):
        for file_name, tree in trees().items():
            for at, node in enumerate(tree.body):
                self.assertIsInstance(node, MODULE_NODES, file_name)
                if isinstance(node, ast.Expr):
                    self.assertEqual(at, 0, file_name)

    def test_barred_nodes(self):
        self.assertEqual([(name, node.lineno) for name, node in nodes(BARRED_NODES)], [])

    def test_literals(self):
        for name, node in nodes(ast.Constant):
            self.assertNotIsInstance(node.value, (float, complex), name)
            if isinstance(node.value, str):
                self.assertNotIn(chr(37), node.value, name)

    def test_is(self):
        for name, node in nodes(ast.Compare):
            for operator, right in zip(node.ops, node.comparators):
                if isinstance(operator, (ast.Is, ast.IsNot)):
                    self.assertTrue(isinstance(right, ast.Constant) and right.value in (None, True, False), name)

    def test_called_methods(self):
        own = {node.name for _, node in nodes(ast.FunctionDef)}
        for name, node in nodes(ast.Call):
            if isinstance(node.func, ast.Attribute):
                self.assertIn(node.func.attr, METHODS | own, (name, node.lineno))

    def test_powers_have_literal_exponents(self):
        for name, node in nodes(ast.BinOp):
            if isinstance(node.op, ast.Pow):
                self.assertTrue(isinstance(node.right, ast.Constant) and 0 <= node.right.value <= 64, name)

    def test_raised_on_the_spot(self):
        for name, node in nodes(ast.Raise):
            self.assertTrue(node.exc is None or isinstance(node.exc, ast.Call) and isinstance(node.exc.func, ast.Name))

    def test_special_methods(self):
        for name, node in nodes(ast.FunctionDef):
            if node.name.startswith("_"):
                self.assertIn(node.name, SPECIAL_METHODS, name)

    def test_generators_where_a_class_has_an_equality(self):
        for name, node in nodes(ast.Call):
            if isinstance(node.func, ast.Name) and node.func.id in ("any", "all", "min", "max", "sum", "sorted"):
                for part in node.args:
                    self.assertNotIsInstance(part, ast.GeneratorExp, (name, node.lineno))

    def test_caught_errors_are_own_ones(self):
        own = {node.name for node in trees()["errors"].body if isinstance(node, ast.ClassDef)}
        for name, node in nodes(ast.ExceptHandler):
            self.assertIn(node.type.id, own, (name, node.lineno))

    def test_sets_are_not_made_at_module_level(self):
        for file_name, tree in trees().items():
            for node in tree.body:
                if isinstance(node, ast.Assign):
                    self.assertNotIsInstance(node.value, (ast.Set, ast.SetComp, ast.Call, ast.ListComp), file_name)


def classes():
    return {node.name: node for _, node in nodes(ast.ClassDef)}


def methods_of(node):
    return [part for part in node.body if isinstance(part, ast.FunctionDef)]


def decorators_of(node):
    return [ast.unparse(part) for part in node.decorator_list]


def stored_attributes(node):
    return {part.attr for part in ast.walk(node) if isinstance(part, ast.Attribute) and isinstance(part.ctx, ast.Store)}


class ClassesTest(unittest.TestCase):
    def test_class_values_are_written_out(self):
        for name, node in nodes(ast.ClassDef):
            for part in node.body:
                if isinstance(part, ast.Assign):
                    self.assertIsInstance(part.value, ast.Constant, name)
                    self.assertNotEqual(name, "errors")

    def test_decorators(self):
        for name, node in nodes(ast.FunctionDef):
            for word in decorators_of(node):
                self.assertIn(word, ("property", "staticmethod", "classmethod", f"{node.name}.setter"), name)

    def test_no_name_is_a_method_and_an_attribute(self):
        methods = {method.name for node in classes().values() for method in methods_of(node)
                   if not any("property" in word or "setter" in word for word in decorators_of(method))}
        attributes = {name for node in classes().values() for name in stored_attributes(node)}
        self.assertEqual(sorted(methods & attributes), [])

    def test_nothing_is_read_off_a_class_by_name(self):
        # Otherwise NoNote could have no attribute with the name of the property note.
        own = classes()
        for name, node in nodes(ast.Attribute):
            if isinstance(node.value, ast.Name):
                self.assertNotIn(node.value.id, own, (name, node.lineno))

    def test_returns_of_special_methods(self):
        for name, node in nodes(ast.FunctionDef):
            found = [part.value for part in ast.walk(node) if isinstance(part, ast.Return)]
            if node.name == "__len__":
                self.assertTrue(all(ast.unparse(value).startswith("len(") for value in found), name)
            if node.name == "__str__":
                self.assertTrue(all(isinstance(value, (ast.Constant, ast.JoinedStr)) for value in found), name)

    def test_special_methods_and_properties_change_nothing(self):
        functions = self.functions()
        for name in self.reached(functions):
            for node in functions[name]:
                for part in ast.walk(node):
                    self.assertNotIsInstance(part, (ast.AugAssign, ast.Delete, ast.NamedExpr), name)
                self.assertEqual(stored_attributes(node), set(), name)
                changed = [part for part in ast.walk(node)
                           if isinstance(part, ast.Subscript) and not isinstance(part.ctx, ast.Load)]
                self.assertEqual(changed, [], name)

    def functions(self):
        """All functions and methods by their names; those of one name count together."""
        found = {}
        for _, node in nodes(ast.FunctionDef):
            if not any(word.endswith(".setter") for word in decorators_of(node)):
                found.setdefault(node.name, []).append(node)
        return found

    def reached(self, functions):
        """The names of all functions and methods that properties and special methods call, directly or not."""
        own = classes()
        names = [name for name, found in functions.items() if name in ("__eq__", "__str__", "__len__")
                 or any("property" in decorators_of(node) for node in found)]
        for name in names:
            for part in [part for node in functions[name] for part in ast.walk(node) if isinstance(part, ast.Call)]:
                called = part.func.attr if isinstance(part.func, ast.Attribute) else part.func.id
                if called in own:
                    # An error without arguments has nothing to assign.
                    self.assertNotIn("__init__", [method.name for method in methods_of(own[called])], name)
                elif called in functions and called not in names:
                    names.append(called)
        self.assertIn("least_tolerance", names)
        return names


if __name__ == "__main__":
    unittest.main()
