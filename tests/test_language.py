"""The package's files keep to the small part of Python in which they are to be written."""

import ast
import builtins
import pathlib
import re
import unittest

PACKAGE = pathlib.Path(__file__).parent.parent / "chargeturns"
FILES = sorted(path for path in PACKAGE.rglob("*") if path.is_file() and "__pycache__" not in path.parts)

NODES = {
    "Module", "ImportFrom", "alias", "ClassDef", "FunctionDef", "arguments", "arg", "Return", "Assign", "AugAssign",
    "Expr", "If", "For", "While", "Raise", "Pass", "Name", "Load", "Store", "Constant", "Tuple", "List", "Dict",
    "Attribute", "Subscript", "Slice", "Call", "keyword", "Starred", "IfExp", "ListComp", "DictComp", "SetComp",
    "comprehension", "JoinedStr", "FormattedValue", "Compare", "BoolOp", "And", "Or", "UnaryOp", "Not", "USub",
    "BinOp", "Add", "Sub", "Mult", "FloorDiv", "Mod", "Eq", "NotEq", "Lt", "LtE", "Gt", "GtE", "Is", "IsNot", "In",
    "NotIn", "With", "withitem", "Try", "ExceptHandler",
}
BUILTINS = {
    "len", "range", "enumerate", "zip", "min", "max", "sum", "abs", "sorted", "reversed", "int", "str", "bool", "list",
    "tuple", "dict", "isinstance", "any", "all", "divmod", "ValueError", "property",
}
METHODS = {
    "append", "clear", "copy", "count", "endswith", "extend", "find", "get", "index", "insert", "items", "join", "keys",
    "partition", "pop", "remove", "replace", "reverse", "setdefault", "split", "startswith", "update", "values", "zfill",
}
# Shells and doctest leave a name `_` among the builtins, which is none.
PYTHON_NAMES = set(dir(builtins)) - {"_"}
LIBRARY = {"math": {"gcd", "lcm", "isqrt", "comb", "perm", "factorial"}, "itertools": {"product", "combinations"}}
DOUBLE = {"__init__", "__len__", "__eq__", "__enter__", "__exit__"}
# Methods and attributes of Python's own values; own ones may be called as those of strings and lists in METHODS.
PYTHON_ATTRIBUTES = {name for kind in (str, int, list, dict, set, tuple, bytes) for name in dir(kind)}
BARRED_WORDS = re.compile(
    r"\b(type|typing|enum|Enum|Flag|Generic|Protocol|ABC|namedtuple|NamedTuple|abstractmethod|_wall|_WallAttr)\b"
    r"|dataclass|overload|contextmanager"
)
BARRED_NAMES = {"register", "mro", "elements", "open", "input", "law", "map", "format", "copyright", "credits", "license"}
BARRED_BEGINNINGS = ("_wall", "_pe_", "_dcw_", "_enum_", "_cm_", "_twin_re_", "_lay_", "_law_", "_stub_", "_sre", "__")


def trees():
    return {path: ast.parse(path.read_text(encoding="utf-8")) for path in FILES}


def defined_in(tree):
    """The names that a file binds itself at module level."""
    bound = [node.name for node in tree.body if isinstance(node, (ast.FunctionDef, ast.ClassDef))]
    return bound + [node.targets[0].id for node in tree.body if isinstance(node, ast.Assign)]


def imported_in(tree):
    return [(node.module, alias.name) for node in tree.body if isinstance(node, ast.ImportFrom) for alias in node.names]


def functions_of(tree):
    return [node for node in ast.walk(tree) if isinstance(node, ast.FunctionDef)]


def names_bound_in(function):
    """Parameters and variables of a function."""
    stored = [node.id for node in ast.walk(function) if isinstance(node, ast.Name) and isinstance(node.ctx, ast.Store)]
    return [parameter.arg for parameter in function.args.args + function.args.kwonlyargs] + stored


def classes_of(tree):
    return [node for node in tree.body if isinstance(node, ast.ClassDef)]


def methods_of(told):
    return [node for node in told.body if isinstance(node, ast.FunctionDef)]


def attributes_of(tree, context):
    """The names of all attributes that are read (ast.Load) or assigned (ast.Store)."""
    return [node.attr for node in ast.walk(tree) if isinstance(node, ast.Attribute) and isinstance(node.ctx, context)]


def all_methods():
    """The names of all methods of the package, and of those that are properties."""
    found = [node for tree in trees().values() for told in classes_of(tree) for node in methods_of(told)]
    return {node.name for node in found}, {node.name for node in found if node.decorator_list}


def is_name_or_attribute(node):
    return isinstance(node, ast.Name) or isinstance(node, ast.Attribute) and isinstance(node.value, ast.Name)


def asks_for_none_alone(test):
    """Whether a condition is `is None` or `is not None` of names and attributes, or such joined by and, or, not."""
    if isinstance(test, ast.BoolOp):
        return all(asks_for_none_alone(value) for value in test.values)
    if isinstance(test, ast.UnaryOp):
        return isinstance(test.op, ast.Not) and asks_for_none_alone(test.operand)
    return (
        isinstance(test, ast.Compare) and is_name_or_attribute(test.left) and len(test.ops) == 1
        and isinstance(test.ops[0], (ast.Is, ast.IsNot))
        and isinstance(test.comparators[0], ast.Constant) and test.comparators[0].value is None
    )


def is_plain_end(row):
    """Whether a row may stand in `__exit__`: no test of an attribute's truth, which `__len__` could decide."""
    if isinstance(row, ast.If):
        return asks_for_none_alone(row.test) and all(is_plain_end(inner) for inner in row.body + row.orelse)
    if isinstance(row, ast.Return):
        return row.value is None
    if isinstance(row, ast.Assign):
        return all(is_name_or_attribute(node) for node in row.targets + [row.value])
    return isinstance(row, ast.Pass)


class Language(unittest.TestCase):
    def test_the_folder_holds_plain_files(self):
        self.assertIn(PACKAGE / "__init__.py", FILES)
        for path in FILES:
            self.assertRegex(path.name, r"^(__init__|[a-z][a-z0-9_]*)\.py$")
            self.assertNotIn(path.stem, PYTHON_NAMES)

    def test_lines(self):
        for path in FILES:
            text = path.read_text(encoding="utf-8")
            self.assertTrue(text.isascii())
            self.assertFalse("\t" in text or "\r" in text)
            self.assertLessEqual(len(text.splitlines()), 399)
            self.assertLessEqual(max(len(line) for line in text.splitlines()), 120)

    def test_statements_and_expressions(self):
        for tree in trees().values():
            self.assertEqual({type(node).__name__ for node in ast.walk(tree)} - NODES, set())

    def test_module_level(self):
        plain = (ast.FunctionDef, ast.ClassDef, ast.ImportFrom, ast.Assign)
        for tree in trees().values():
            self.assertTrue(ast.get_docstring(tree))
            self.assertTrue(all(isinstance(node, plain) for node in tree.body[1:]))
            bound = defined_in(tree) + [name for _, name in imported_in(tree)]
            self.assertEqual(len(bound), len(set(bound)))
            for node in tree.body:
                if isinstance(node, ast.Assign):
                    self.assertEqual(len(node.targets), 1)
                    ast.literal_eval(node.value)

    def test_functions(self):
        for tree in trees().values():
            for function in functions_of(tree):
                self.assertLessEqual(function.end_lineno - function.lineno + 1, 40)
                self.assertEqual(function.returns, None)
                self.assertIn([told.id for told in function.decorator_list], ([], ["property"]))
                self.assertTrue(not function.args.vararg and not function.args.kwarg and not function.args.posonlyargs)
                self.assertTrue(all(parameter.annotation is None for parameter in function.args.args))
                self.assertTrue(not function.name.startswith("__") or function.name in DOUBLE)

    def test_imports(self):
        told = {f"chargeturns.{path.stem}": defined_in(tree) for path, tree in trees().items()}
        for tree in trees().values():
            for module, name in imported_in(tree):
                known = LIBRARY[module] if module in LIBRARY else told[module]
                self.assertIn(name, known)
            aliases = [node for node in ast.walk(tree) if isinstance(node, ast.alias)]
            self.assertTrue(all(alias.asname is None for alias in aliases))

    def test_no_two_files_import_from_each_other(self):
        told = {f"chargeturns.{path.stem}": imported_in(tree) for path, tree in trees().items()}
        left = {module: {name for name, _ in imports if name in told} for module, imports in told.items()}
        while left:
            ready = [module for module, needed in left.items() if not needed & set(left)]
            self.assertTrue(ready, "files import from each other")
            for module in ready:
                del left[module]

    def test_all_that_is_imported_or_hidden_is_used(self):
        for path, tree in trees().items():
            read = {node.id for node in ast.walk(tree) if isinstance(node, ast.Name) and isinstance(node.ctx, ast.Load)}
            hidden = [name for name in defined_in(tree) if name.startswith("_")]
            self.assertEqual([name for _, name in imported_in(tree) if name not in read], [])
            self.assertEqual([name for name in hidden if name not in read], [])

    def test_names(self):
        for tree in trees().values():
            classes = [node.name for node in tree.body if isinstance(node, ast.ClassDef)]
            taken = set(classes + [name for _, name in imported_in(tree)])
            for function in functions_of(tree):
                bound = set(names_bound_in(function))
                self.assertEqual(bound & taken, set())
                bound |= {function.name} - DOUBLE
                self.assertEqual(bound & (PYTHON_NAMES | BARRED_NAMES), set())
                self.assertFalse([name for name in bound if name.startswith(BARRED_BEGINNINGS)])
            words = [node.id for node in ast.walk(tree) if isinstance(node, ast.Name)]
            self.assertEqual([word for word in words if word in PYTHON_NAMES and word not in BUILTINS], [])

    def test_blank_names_are_never_read(self):
        for tree in trees().values():
            names = [node for node in ast.walk(tree) if isinstance(node, ast.Name) and node.id == "_"]
            self.assertTrue(all(isinstance(node.ctx, ast.Store) for node in names))

    def test_strings(self):
        for path, tree in trees().items():
            constants = [node.value for node in ast.walk(tree) if isinstance(node, ast.Constant)]
            self.assertFalse([value for value in constants if isinstance(value, (float, complex, bytes))])
            strings = [value for value in constants if isinstance(value, str)]
            self.assertFalse([text for text in strings if "\u0025" in text or "__" in text])
            code = re.sub(r'""".*?"""|#.*', "", path.read_text(encoding="utf-8"), flags=re.S)
            self.assertIsNone(BARRED_WORDS.search(code))

    def test_methods(self):
        own, properties = all_methods()
        self.assertEqual(own & PYTHON_ATTRIBUTES - METHODS - DOUBLE, set())
        for tree in trees().values():
            calls = [node.func for node in ast.walk(tree) if isinstance(node, ast.Call)]
            called = {function.attr for function in calls if isinstance(function, ast.Attribute)}
            self.assertEqual(called - METHODS - own, set())
            self.assertEqual(called & (properties | DOUBLE), set())

    def test_attributes_are_no_methods(self):
        own, properties = all_methods()
        assigned = {name for tree in trees().values() for name in attributes_of(tree, ast.Store)}
        self.assertEqual(assigned & (own | PYTHON_ATTRIBUTES), set())
        for tree in trees().values():
            calls = [node.func for node in ast.walk(tree) if isinstance(node, ast.Call)]
            called = [function.attr for function in calls if isinstance(function, ast.Attribute)]
            # What is read is an attribute that some class assigns, a property, or a method that is called on the spot.
            for name in set(attributes_of(tree, ast.Load)) - assigned - properties:
                self.assertEqual(attributes_of(tree, ast.Load).count(name), called.count(name), name)

    def test_defaults_are_plain(self):
        for tree in trees().values():
            for function in functions_of(tree):
                for value in function.args.defaults + [told for told in function.args.kw_defaults if told]:
                    ast.literal_eval(value)

    def test_only_own_errors_are_raised_and_caught(self):
        errors = set(defined_in(ast.parse((PACKAGE / "errors.py").read_text(encoding="utf-8"))))
        for tree in trees().values():
            for node in ast.walk(tree):
                if isinstance(node, ast.ExceptHandler):
                    self.assertIn(node.type.id, errors)
                if isinstance(node, ast.Raise):
                    self.assertIn(node.exc.func.id, errors)
                if isinstance(node, ast.Try):
                    self.assertEqual((node.finalbody, node.orelse), ([], []))

    def test_the_end_of_a_block_is_plain(self):
        ends = [node for tree in trees().values() for node in functions_of(tree) if node.name == "__exit__"]
        self.assertEqual(len(ends), 1)
        for end in ends:
            self.assertEqual([parameter.arg for parameter in end.args.args], ["self", "kind", "value", "trace"])
            self.assertEqual([ast.unparse(row) for row in end.body if not is_plain_end(row)], [])
            read = [node.id for row in end.body for node in ast.walk(row) if isinstance(node, ast.Name)]
            self.assertEqual(set(read) & {"value", "trace"}, set())

    def test_what_counts_as_a_plain_end(self):
        for text in (
            "box = self.box", "box.rows = self.rows", "if kind is None: box.rows = rows", "if self.kept is not None: return",
            "if kind is not None or self.kept is None: box.rows = self.rows", "if not (kind is None and self.kept is None): pass",
        ):
            self.assertTrue(is_plain_end(ast.parse(text).body[0]), text)
        for text in (
            "if self.kept: pass", "if not self.kept: pass", "if kind: pass", "if not kind: pass", "if kind is ValueError: pass",
            "if kind is not None or not self.kept: box.rows = self.rows", "if self.kept is True: pass", "box = self.made()",
            "if self.kept == None: pass", "if len(self.rows) is None: pass", "if None is kind is None: pass", "self.made()",
            "return True", "if kind is None: self.rows = self.kept or ()", "while kind is None: pass", "box, self.rows = rows",
        ):
            self.assertFalse(is_plain_end(ast.parse(text).body[0]), text)

    def test_keywords_of_builtins(self):
        for tree in trees().values():
            for node in ast.walk(tree):
                if isinstance(node, ast.Call) and isinstance(node.func, ast.Name) and node.func.id in BUILTINS:
                    allowed = {"sorted": {"key", "reverse"}, "enumerate": {"start"}, "min": {"key"}, "max": {"key"}}
                    self.assertLessEqual({word.arg for word in node.keywords}, allowed.get(node.func.id, set()))

    def test_sets_stand_in_sorted_or_len(self):
        for tree in trees().values():
            sets = [node for node in ast.walk(tree) if isinstance(node, ast.SetComp)]
            calls = [node for node in ast.walk(tree) if isinstance(node, ast.Call) and isinstance(node.func, ast.Name)]
            held = [call.args[0] for call in calls if call.func.id in ("sorted", "len")]
            self.assertEqual([node for node in sets if node not in held], [])

    def test_views_are_gone_through_at_once(self):
        for tree in trees().values():
            stored = [node.value for node in ast.walk(tree) if isinstance(node, (ast.Assign, ast.Return))]
            calls = [node.func for node in stored if isinstance(node, ast.Call)]
            names = {function.id for function in calls if isinstance(function, ast.Name)}
            self.assertEqual(names & {"zip", "enumerate", "reversed", "range"}, set())

    def test_is_stands_beside_none_true_and_false(self):
        for tree in trees().values():
            for node in ast.walk(tree):
                if isinstance(node, ast.Compare) and isinstance(node.ops[0], (ast.Is, ast.IsNot)):
                    right = node.comparators[0]
                    self.assertTrue(isinstance(right, ast.Constant) and right.value in (None, True, False))


if __name__ == "__main__":
    unittest.main()
