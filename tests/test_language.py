"""Rules of the language that can be read off the code, for each file of the package."""

import ast
import builtins
import pathlib
import unittest

FOLDER = pathlib.Path(__file__).resolve().parent.parent / "soonestsaid"
BUILTINS = set(
    "len range enumerate zip min max sum abs sorted reversed int str bool list tuple dict set isinstance ord repr any all"
    " divmod property iter super ValueError KeyError ZeroDivisionError".split())
METHODS = set(
    "append clear copy count endswith extend find get index insert isalnum isalpha isdigit islower isspace isupper items"
    " join keys ljust lower lstrip partition pop remove replace reverse rfind rjust rpartition rsplit rstrip setdefault"
    " split splitlines startswith strip update upper values zfill bit_length add discard".split())
ATTRIBUTES = set("count index title find get join lower upper split strip copy add".split())
DUNDERS = {"__init__", "__eq__", "__len__", "__iter__"}
# What the files may import from Python's own library.
LIBRARY = {"heapq": ("heappush", "heappop"), "math": ("lcm",)}
BARRED_NAMES = set(
    "register mro elements open input law version_info with_traceback add_note attrgetter breakpoint builtins compile"
    " copyright credits delattr dir eval exec exit gc globals help id importlib license locals methodcaller os quit"
    " super type vars sys".split())
BARRED_WORDS = set(
    "type typing typing_extensions enum Enum IntEnum StrEnum Flag IntFlag Generic Protocol ABC ABCMeta namedtuple"
    " NamedTuple TypedDict TYPE_CHECKING abstractmethod dataclass overload contextmanager".split())
BARRED_NODES = (
    ast.Global, ast.AsyncFunctionDef, ast.AsyncFor, ast.AsyncWith, ast.Await, ast.Div, ast.Lambda, ast.AnnAssign,
    ast.GeneratorExp, ast.NamedExpr, ast.Import)
TEXTS = {path.name: path.read_text("ascii") for path in sorted(FOLDER.glob("*.py"))}
TREES = {name: ast.parse(text) for name, text in TEXTS.items()}


def functions(tree):
    return [node for node in ast.walk(tree) if isinstance(node, ast.FunctionDef)]


def parameters(function):
    args = function.args
    return [arg.arg for arg in args.posonlyargs + args.args + args.kwonlyargs]


def imports(tree):
    return [node for node in tree.body if isinstance(node, ast.ImportFrom)]


def stored_names(tree):
    """All names that a file gives a meaning but for its imports."""
    names = [node.id for node in ast.walk(tree) if isinstance(node, ast.Name) and isinstance(node.ctx, ast.Store)]
    for node in ast.walk(tree):
        if isinstance(node, (ast.FunctionDef, ast.ClassDef)):
            names.append(node.name)
        if isinstance(node, ast.ExceptHandler) and node.name:
            names.append(node.name)
    return names + [name for function in functions(tree) for name in parameters(function)]


def top_names(tree):
    names = []
    for node in tree.body:
        if isinstance(node, (ast.FunctionDef, ast.ClassDef)):
            names.append(node.name)
        if isinstance(node, ast.Assign):
            names.extend(target.id for target in node.targets)
        if isinstance(node, ast.ImportFrom):
            names.extend(alias.asname or alias.name for alias in node.names)
    return names


def strings(tree):
    """All strings but docstrings."""
    docs = set()
    for node in ast.walk(tree):
        if isinstance(node, (ast.Module, ast.FunctionDef, ast.ClassDef)) and ast.get_docstring(node) is not None:
            docs.add(id(node.body[0].value))
    return [node.value for node in ast.walk(tree)
            if isinstance(node, ast.Constant) and isinstance(node.value, str) and id(node) not in docs]


class LanguageTest(unittest.TestCase):
    def test_files_are_plain(self):
        found = [path for path in FOLDER.iterdir() if path.name != "__pycache__"]
        self.assertEqual(sorted(path.name for path in found), sorted(TEXTS))
        for name, text in TEXTS.items():
            self.assertRegex(name, "^[a-z0-9_]+[.]py$")
            self.assertLessEqual(len(text.splitlines()), 399, name)
            for line in text.split("\n"):
                self.assertLessEqual(len(line), 120, (name, line))
                self.assertTrue(all(" " <= sign <= "~" for sign in line), (name, line))

    def test_functions_are_small(self):
        for name, tree in TREES.items():
            for function in functions(tree):
                self.assertLessEqual(function.end_lineno - function.lineno + 1, 40, (name, function.name))

    def test_imports_name_the_file_that_defines(self):
        for name, tree in TREES.items():
            for node in imports(tree):
                folder, _, file = node.module.partition(".")
                if folder in LIBRARY:
                    names = [(alias.name, alias.asname) for alias in node.names]
                    self.assertLessEqual(set(names), {(word, None) for word in LIBRARY[folder]}, name)
                    continue
                self.assertEqual((folder, node.level), ("soonestsaid", 0), name)
                defined = TREES[file + ".py"]
                own = set(top_names(defined)) - {alias.name for line in imports(defined) for alias in line.names}
                for alias in node.names:
                    self.assertIn(alias.name, own, name)
                    self.assertIsNone(alias.asname, name)

    def test_imports_are_used_and_make_no_circle(self):
        needs = {}
        for name, tree in TREES.items():
            needs[name] = {node.module.partition(".")[2] + ".py" for node in imports(tree)}
            used = {node.id for node in ast.walk(tree) if isinstance(node, ast.Name)}
            for node in imports(tree):
                self.assertLessEqual({alias.name for alias in node.names}, used, name)
        while needs:
            free = [name for name in needs if not needs[name] & set(needs)]
            self.assertTrue(free, needs)
            for name in free:
                del needs[name]

    def test_statements_and_expressions(self):
        for name, tree in TREES.items():
            for node in tree.body:
                doc = isinstance(node, ast.Expr) and isinstance(node.value, ast.Constant)
                plain = (ast.ImportFrom, ast.FunctionDef, ast.ClassDef, ast.Assign)
                self.assertTrue(doc or isinstance(node, plain), (name, node.lineno))
            for node in ast.walk(tree):
                self.assertNotIsInstance(node, BARRED_NODES, (name, getattr(node, "lineno", None)))
                if isinstance(node, ast.Constant):
                    self.assertNotIsInstance(node.value, (float, complex, bytes), name)
                if isinstance(node, (ast.FunctionDef, ast.ClassDef)):
                    for decorator in node.decorator_list:
                        self.assertEqual(ast.unparse(decorator), "property", name)
                if isinstance(node, ast.FunctionDef):
                    self.assertIsNone(node.returns)
                if isinstance(node, ast.arg):
                    self.assertIsNone(node.annotation)

    def test_is_stands_beside_none_alone(self):
        for name, tree in TREES.items():
            for node in ast.walk(tree):
                if isinstance(node, ast.Compare):
                    for sign, right in zip(node.ops, node.comparators):
                        if isinstance(sign, (ast.Is, ast.IsNot)):
                            self.assertIn(ast.unparse(right), ("None", "True", "False"), (name, node.lineno))

    def test_names(self):
        for name, tree in TREES.items():
            top = top_names(tree)
            self.assertEqual(len(top), len(set(top)), name)
            for found in stored_names(tree):
                self.assertNotIn(found, dir(builtins), name)
                self.assertNotIn(found, BARRED_NAMES, name)
                self.assertTrue(found.isascii() and (not found.startswith("__") or found in DUNDERS), (name, found))
            taken = {alias.name for line in imports(tree) for alias in line.names}
            taken |= {node.name for node in tree.body if isinstance(node, ast.ClassDef)}
            for function in functions(tree):
                inner = parameters(function) + [
                    node.id for node in ast.walk(function)
                    if isinstance(node, ast.Name) and isinstance(node.ctx, ast.Store)]
                self.assertFalse(taken & set(inner), (name, function.name))
                self.assertFalse(set(inner) & set(top), (name, function.name))

    def test_builtins(self):
        for name, tree in TREES.items():
            for node in ast.walk(tree):
                if isinstance(node, ast.Name) and hasattr(builtins, node.id):
                    self.assertIn(node.id, BUILTINS, (name, node.lineno))

    def test_iter_and_super_stand_where_they_may(self):
        for name, tree in TREES.items():
            text = TEXTS[name]
            called = [node for node in ast.walk(tree) if isinstance(node, ast.Call) and isinstance(node.func, ast.Name)]
            self.assertEqual(text.count("iter("), text.count("        return iter(self."), name)
            supers = [node for node in called if node.func.id == "super"]
            beside = [node for node in ast.walk(tree) if isinstance(node, ast.Call) and isinstance(node.func, ast.Attribute)
                      and isinstance(node.func.value, ast.Call) and node.func.value in supers]
            self.assertEqual(len(supers), len(beside), name)
            for node in beside:
                self.assertTrue(node.func.attr == "__init__" or not node.func.attr.startswith("_"), (name, node.lineno))
            for function in functions(tree):
                inner = [node for node in ast.walk(function) if isinstance(node, (ast.ListComp, ast.DictComp, ast.SetComp))]
                for comprehension in inner:
                    self.assertFalse([node for node in ast.walk(comprehension) if node in supers], (name, function.name))
                if function.name == "__len__":
                    self.assertRegex(ast.unparse(function.body[-1]), "^return len\\(.*\\)$")
                if function.name == "__iter__":
                    self.assertEqual(len(function.body), 1)

    def test_methods_and_attributes(self):
        own = set()
        assigned = set()
        for tree in TREES.values():
            for node in ast.walk(tree):
                if isinstance(node, ast.ClassDef):
                    own |= {part.name for part in node.body if isinstance(part, ast.FunctionDef)}
                if isinstance(node, ast.Attribute) and isinstance(node.ctx, ast.Store):
                    assigned.add(node.attr)
        for found in own | assigned:
            for value in (0, "", [], {}, set(), b"", ()):
                if found not in DUNDERS and found not in (METHODS if found in own else ATTRIBUTES):
                    self.assertFalse(hasattr(value, found), found)
        for name, tree in TREES.items():
            for node in ast.walk(tree):
                if isinstance(node, ast.Attribute):
                    self.assertIn(node.attr, own | assigned | METHODS, (name, node.lineno))
                    self.assertNotIn(node.attr, BARRED_NAMES, (name, node.lineno))

    def test_a_name_is_one_kind_of_thing(self):
        methods, properties, assigned, defined = set(), set(), set(), []
        for tree in TREES.values():
            for node in ast.walk(tree):
                if isinstance(node, ast.ClassDef):
                    for part in node.body:
                        if isinstance(part, ast.FunctionDef):
                            (properties if part.decorator_list else methods).add(part.name)
                if isinstance(node, ast.Attribute) and isinstance(node.ctx, ast.Store):
                    assigned.add(node.attr)
            defined.extend(functions(tree))
        self.assertFalse(methods & assigned or properties & assigned or methods & properties)
        names = [function.name for function in defined]
        for function in defined:
            if any(isinstance(node, (ast.Yield, ast.YieldFrom)) for node in ast.walk(function)):
                self.assertEqual(names.count(function.name), 1, function.name)

    def test_strings(self):
        for name, tree in TREES.items():
            for text in strings(tree):
                self.assertNotIn("%", text, name)
                self.assertFalse(BARRED_WORDS & set(text.replace(".", " ").split()), (name, text))
                self.assertTrue(all(" " <= sign <= "~" or sign == "\n" for sign in text), name)

    def test_errors_are_own_ones(self):
        errors = [node.name for node in TREES["errors.py"].body if isinstance(node, ast.ClassDef)]
        for name, tree in TREES.items():
            for node in ast.walk(tree):
                if isinstance(node, ast.ExceptHandler):
                    self.assertIn(ast.unparse(node.type), [*errors, "KeyError"], (name, node.lineno))
                if isinstance(node, ast.Raise) and node.exc is not None:
                    self.assertIn(node.exc.func.id, errors, (name, node.lineno))


if __name__ == "__main__":
    unittest.main()
