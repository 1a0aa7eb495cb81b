"""Holds the package against those rules of its language that a short script can see."""

import ast
import builtins
import io
import keyword
import os
import tokenize
import unittest

ROOT = os.path.dirname(os.path.dirname(os.path.abspath(__file__)))
PACKAGE = os.path.join(ROOT, "deepcuts")
FILES = sorted(name for name in os.listdir(PACKAGE) if name != "__pycache__")


def content(name):
    with open(os.path.join(PACKAGE, name), encoding="utf-8") as file:
        return file.read()


TABLE = {name: content(name) for name in FILES}
TREES = {name: ast.parse(text) for name, text in TABLE.items()}

# An interactive example, as doctest runs them, leaves its last value in `_`, which is no builtin.
BUILT_IN_NAMES = set(dir(builtins)) - {"_"}
LIBRARY = {"heapq", "math", "itertools"}
BUILTINS = set("""len range enumerate zip min max sum abs sorted reversed int str bool bytes list tuple dict set
    frozenset isinstance ord repr any all divmod iter next map property staticmethod classmethod super
    Exception ValueError TypeError KeyError IndexError LookupError ZeroDivisionError ArithmeticError OverflowError
    RuntimeError NotImplementedError AttributeError StopIteration NotImplemented""".split())
BARRED_NAMES = set("""register mro elements open input law version_info with_traceback add_note attrgetter breakpoint
    builtins compile copyright credits delattr dir eval exec exit gc getattr globals hasattr help id importlib license
    locals methodcaller os quit setattr type vars sys""".split())
BARRED_WORDS = set("""typing typing_extensions enum Enum IntEnum StrEnum Flag IntFlag Generic Protocol ABC ABCMeta
    namedtuple NamedTuple TypedDict TYPE_CHECKING abstractmethod type""".split())
BARRED_STARTS = ("_wall", "_pe_", "_dcw_", "_enum_", "_cm_", "_twin_re_", "_lay_", "_law_", "_stub_", "_sre")
BARRED_WHOLE = ("_cold", "_tuplegetter", "_outside", "_record", "_written_out", "_member_names")
DOUBLE = set("""init eq repr str len enter exit call iter lt le gt ge ne add sub mul floordiv mod pow and or xor
    lshift rshift radd rsub rmul iadd isub imul iand ior neg pos invert abs bool contains getitem setitem""".split())
METHODS = set("""append clear copy count endswith extend find get index insert isalnum isalpha isdigit islower isspace
    isupper items join keys ljust lower lstrip partition pop remove replace reverse rfind rjust rpartition rsplit rstrip
    setdefault split splitlines startswith strip update upper values zfill bit_length removeprefix removesuffix""".split())
BUILT_IN_METHODS = {name for kind in (str, int, list, tuple, dict, set, bytes) for name in dir(kind)}
NODES_BARRED = (ast.Global, ast.AsyncFunctionDef, ast.AsyncFor, ast.AsyncWith, ast.Await, ast.Import, ast.Div, ast.MatMult)

OPERATOR_PARAMETERS = (["self"], ["self", "other"], ["self", "at"], ["self", "x"], ["self", "at", "worth"])


def walk(kind):
    """All pairs (file, node) of this kind."""
    return [(name, node) for name, tree in TREES.items() for node in ast.walk(tree) if isinstance(node, kind)]


def names_bound():
    """All pairs (file, name) of functions, classes, parameters, variables and imports."""
    found = []
    found += [(file, node.name) for file, node in walk((ast.FunctionDef, ast.ClassDef))]
    found += [(file, node.arg) for file, node in walk(ast.arg)]
    found += [(file, node.id) for file, node in walk(ast.Name) if isinstance(node.ctx, ast.Store)]
    found += [(file, alias.name) for file, node in walk(ast.ImportFrom) for alias in node.names]
    return found


def own_methods():
    return {row.name for _, node in walk(ast.ClassDef) for row in node.body if isinstance(row, ast.FunctionDef)}


class Lines(unittest.TestCase):
    def test_files(self):
        for name in FILES:
            self.assertRegex(name, r"^[a-z0-9_]+\.py$")
            self.assertLessEqual(len(TABLE[name].splitlines()), 399, name)
        self.assertIn("__init__.py", FILES)

    def test_characters_and_length_of_lines(self):
        for name, text in TABLE.items():
            self.assertTrue(all(letter == "\n" or " " <= letter <= "~" for letter in text), name)
            for number, line in enumerate(text.splitlines(), 1):
                self.assertLessEqual(len(line), 120, (name, number))

    def test_functions_are_small(self):
        for file, node in walk(ast.FunctionDef):
            self.assertLessEqual(node.end_lineno - node.lineno + 1, 40, (file, node.name))


class Statements(unittest.TestCase):
    def test_nothing_barred(self):
        self.assertEqual([(file, node.lineno) for file, node in walk(NODES_BARRED)], [])
        self.assertEqual([node.value for _, node in walk(ast.Constant) if isinstance(node.value, (float, complex))], [])

    def test_imports(self):
        for file, node in walk(ast.ImportFrom):
            self.assertEqual(node.level, 0, file)
            if node.module not in LIBRARY:
                path = node.module.split(".")
                self.assertEqual((len(path), path[0]), (2, "deepcuts"), (file, node.module))
                self.assertIn(path[1] + ".py", FILES)
                defined = {row.name for row in TREES[path[1] + ".py"].body if hasattr(row, "name")}
                for row in TREES[path[1] + ".py"].body:
                    defined |= {target.id for target in getattr(row, "targets", ())}
                self.assertLessEqual({alias.name for alias in node.names}, defined)
            self.assertEqual([alias.asname for alias in node.names if alias.asname], [])
        self.assertEqual([type(row) for row in TREES["__init__.py"].body], [ast.Expr])

    def test_module_level(self):
        allowed = (ast.ImportFrom, ast.FunctionDef, ast.ClassDef, ast.Assign)
        for name, tree in TREES.items():
            self.assertIsInstance(ast.get_docstring(tree), str)
            for row in tree.body[1:]:
                self.assertIsInstance(row, allowed, (name, row.lineno))

    def test_decorators(self):
        for file, node in walk((ast.FunctionDef, ast.ClassDef)):
            told = [ast.unparse(row) for row in node.decorator_list]
            self.assertIn(told, ([], ["property"], ["staticmethod"], ["classmethod"]), (file, node.name))

    def test_is_stands_beside_constants(self):
        for file, node in walk(ast.Compare):
            for sign, right in zip(node.ops, node.comparators):
                if isinstance(sign, (ast.Is, ast.IsNot)):
                    self.assertIsInstance(right, ast.Constant, (file, node.lineno))

    def test_errors_caught(self):
        for file, node in walk(ast.ExceptHandler):
            self.assertIsNotNone(node.type, file)
            self.assertNotIn(ast.unparse(node.type), ("Exception", "TypeError", "AttributeError"), (file, node.lineno))
        for file, node in walk(ast.Raise):
            self.assertTrue(node.exc is None or isinstance(node.exc, ast.Call), (file, node.lineno))

    def test_sets_stand_in_a_call_or_in_a_plain_variable(self):
        parents = {child: node for _, node in walk(ast.AST) for child in ast.iter_child_nodes(node)}
        sets = [(file, node) for file, node in walk((ast.Set, ast.SetComp))]
        sets += [(file, node) for file, node in walk(ast.Call) if ast.unparse(node.func) == "set"]
        for file, node in sets:
            parent = parents[node]
            if isinstance(parent, ast.Call):
                self.assertIn(ast.unparse(parent.func), ("sorted", "len"), (file, node.lineno))
                self.assertEqual(parent.keywords, [], (file, node.lineno))
            else:
                self.assertIsInstance(parent, (ast.Assign, ast.Compare), (file, node.lineno))

    def test_stars_and_keywords_of_calls(self):
        for file, node in walk(ast.Call):
            if isinstance(node.func, ast.Name) and node.func.id in BUILT_IN_NAMES:
                told = {row.arg for row in node.keywords}
                self.assertLessEqual(told, {"key", "default", "start", "strict", "reverse"}, (file, node.lineno))
                starred = any(isinstance(row, ast.Starred) for row in node.args)
                self.assertFalse(starred and node.func.id not in ("min", "max", "zip"), (file, node.lineno))

    def test_behind_a_star_stands_a_name(self):
        for file, node in walk(ast.Call):
            for row in node.args:
                if isinstance(row, ast.Starred):
                    self.assertIsInstance(row.value, ast.Name, (file, node.lineno))
            self.assertNotIn(None, [row.arg for row in node.keywords], (file, node.lineno))

    def test_exponents_are_literals(self):
        for file, node in walk(ast.BinOp):
            if isinstance(node.op, ast.Pow):
                self.assertIsInstance(node.right, ast.Constant, (file, node.lineno))

    def test_tables_have_functions_of_their_own_file(self):
        for file, tree in TREES.items():
            imported = {alias.name for row in tree.body if isinstance(row, ast.ImportFrom) for alias in row.names}
            for row in tree.body:
                if isinstance(row, ast.Assign):
                    named = {node.id for node in ast.walk(row.value) if isinstance(node, ast.Name)}
                    self.assertEqual(named & imported, set(), (file, row.lineno))

    def test_errors_that_are_caught_are_own_ones(self):
        own = {node.name for _, node in walk(ast.ClassDef)}
        for file, node in walk(ast.ExceptHandler):
            caught = node.type.elts if isinstance(node.type, ast.Tuple) else [node.type]
            self.assertLessEqual({ast.unparse(row) for row in caught}, own, (file, node.lineno))

    def test_the_library_is_only_called(self):
        for file, tree in TREES.items():
            rows = [row for row in tree.body if isinstance(row, ast.ImportFrom) and row.module in LIBRARY]
            taken = {alias.name for row in rows for alias in row.names}
            self.assertLessEqual(taken, {"comb", "lcm", "gcd"}, file)
            calls = [node for node in ast.walk(tree) if isinstance(node, ast.Call) and ast.unparse(node.func) in taken]
            named = [node for node in ast.walk(tree) if isinstance(node, ast.Name) and node.id in taken]
            self.assertEqual(len(calls), len(named), file)
            for call in calls:
                starred = any(isinstance(row, ast.Starred) for row in call.args)
                self.assertFalse(call.keywords or starred, (file, call.lineno))

    def test_no_file_imports_one_that_imports_it(self):
        below = {}
        for file, tree in TREES.items():
            modules = [row.module for row in tree.body if isinstance(row, ast.ImportFrom) and row.module not in LIBRARY]
            below[file] = {module.split(".")[1] + ".py" for module in modules}
        while below:
            free = [file for file, others in below.items() if not others & set(below)]
            self.assertTrue(free, sorted(below))
            for file in free:
                del below[file]

    def test_lists_where_a_class_has_equality(self):
        for file, node in walk(ast.GeneratorExp):
            self.fail((file, node.lineno))


class Names(unittest.TestCase):
    def test_names_bound(self):
        for file, name in names_bound():
            self.assertNotIn(name, BARRED_NAMES | BUILT_IN_NAMES | BARRED_WORDS, file)
            self.assertFalse(name.startswith(BARRED_STARTS) or name.rstrip("_0123456789") in BARRED_WHOLE, (file, name))
            self.assertFalse(keyword.issoftkeyword(name) and name != "_", (file, name))
            if name.startswith("__"):
                self.assertIn(name.strip("_"), DOUBLE, file)

    def test_no_local_has_the_name_of_a_class_or_an_import_of_its_file(self):
        for file, tree in TREES.items():
            outer = {row.name for row in tree.body if isinstance(row, ast.ClassDef)}
            outer |= {alias.name for row in tree.body if isinstance(row, ast.ImportFrom) for alias in row.names}
            inner = {node.arg for node in ast.walk(tree) if isinstance(node, ast.arg)}
            inner |= {node.id for node in ast.walk(tree) if isinstance(node, ast.Name) and isinstance(node.ctx, ast.Store)}
            self.assertEqual(outer & inner, set(), file)

    def test_builtins_read(self):
        for file, node in walk(ast.Name):
            if node.id in BUILT_IN_NAMES:
                self.assertIn(node.id, BUILTINS, (file, node.lineno))

    def test_methods_called_are_own_or_known(self):
        own = own_methods()
        for file, node in walk(ast.Call):
            if isinstance(node.func, ast.Attribute):
                self.assertIn(node.func.attr, own | METHODS, (file, node.lineno))

    def test_own_methods_and_attributes_have_free_names(self):
        attributes = {node.attr for _, node in walk(ast.Attribute) if isinstance(node.ctx, ast.Store)}
        own = {name for name in own_methods() if not name.startswith("__")}
        self.assertEqual((own | attributes) & BUILT_IN_METHODS, set())
        self.assertEqual(own & attributes, set())
        self.assertEqual((own | attributes) & (BARRED_NAMES | {"args", "format", "format_map", "keys"}), set())

    def test_words(self):
        for file, text in TABLE.items():
            for token in tokenize.generate_tokens(io.StringIO(text).readline):
                if token.type == tokenize.NAME:
                    self.assertNotIn(token.string, BARRED_WORDS, file)
                if token.type == tokenize.STRING:
                    self.assertNotIn("%", token.string, (file, token.start))
                    self.assertFalse(token.string.strip("\"'").endswith(("._", ".__")), (file, token.start))
            for word in ("dataclass", "overload", "contextmanager", "(type)", "Meta", "metaclass=", "_wall", "_WallAttr"):
                self.assertNotIn(word, text, file)


class Classes(unittest.TestCase):
    def methods(self, node):
        return {row.name: row for row in node.body if isinstance(row, ast.FunctionDef)}

    def test_a_class_with_items_refuses_to_be_gone_through(self):
        for file, node in walk(ast.ClassDef):
            methods = self.methods(node)
            if "__getitem__" in methods:
                self.assertEqual([type(row) for row in methods["__iter__"].body], [ast.Raise], (file, node.name))

    def test_length_and_equality_are_plain(self):
        for file, node in walk(ast.ClassDef):
            methods = self.methods(node)
            if "__len__" in methods:
                self.assertTrue(ast.unparse(methods["__len__"].body[-1]).startswith("return len("), (file, node.name))
            if "__eq__" in methods:
                told = ast.unparse(methods["__eq__"].body[0])
                self.assertTrue(told.startswith(f"return isinstance(other, {node.name}) and "), (file, node.name))

    def test_no_property_has_the_name_of_a_method_or_an_attribute(self):
        rows = [row for _, node in walk(ast.ClassDef) for row in node.body if isinstance(row, ast.FunctionDef)]
        told = {row.name for row in rows if [ast.unparse(one) for one in row.decorator_list] == ["property"]}
        plain = {row.name for row in rows if row.decorator_list == []}
        attributes = {node.attr for _, node in walk(ast.Attribute) if isinstance(node.ctx, ast.Store)}
        self.assertEqual(told & (plain | attributes | BUILT_IN_METHODS), set())

    def test_operators_have_the_parameters_of_operators(self):
        for file, node in walk(ast.FunctionDef):
            if node.name.startswith("__") and node.name not in ("__init__", "__call__"):
                told = [row.arg for row in node.args.args]
                self.assertIn(told, OPERATOR_PARAMETERS, (file, node.name))
                self.assertEqual(node.args.defaults, [])

    def test_operators_and_properties_add_without_in_place_signs(self):
        self.assertEqual([(file, node.lineno) for file, node in walk(ast.AugAssign)], [])

    def test_no_method_twice(self):
        for file, node in walk(ast.ClassDef):
            told = [row.name for row in node.body if isinstance(row, ast.FunctionDef)]
            self.assertEqual(len(told), len(set(told)), (file, node.name))


if __name__ == "__main__":
    unittest.main()
