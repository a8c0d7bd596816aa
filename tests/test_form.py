"""The form of the package's files: the rules of ../shared/LANGUAGE.md that can be seen in the text of a file."""

import ast
import builtins
import pathlib
import re
import unittest

PACKAGE = pathlib.Path(__file__).resolve().parent.parent / "wardsmith"

# L8, with L27: no chr.
OWN_NAMES = """len range enumerate zip min max sum abs sorted reversed int str bool list tuple dict set frozenset
isinstance ord repr any all divmod Exception ValueError TypeError KeyError IndexError LookupError ZeroDivisionError
ArithmeticError OverflowError RuntimeError NotImplementedError AttributeError StopIteration""".split()

# L25.
OWN_METHODS = """append clear copy count endswith extend find get index insert isalnum isalpha isdigit islower isspace
isupper items join keys ljust lower lstrip partition pop remove replace reverse rfind rjust rpartition rsplit rstrip
setdefault split splitlines startswith strip update upper values zfill bit_length""".split()

DOUBLE_METHODS = ["__init__", "__eq__", "__repr__", "__str__", "__len__"]

# L17.
WORDS_NOWHERE = """type typing typing_extensions enum Enum IntEnum StrEnum Flag IntFlag Generic Protocol ABC ABCMeta
namedtuple NamedTuple TypedDict TYPE_CHECKING abstractmethod""".split()
NAMES_NOWHERE = """register mro elements open input version_info with_traceback add_note format format_map getattr
setattr hasattr delattr super vars eval exec globals locals sys os""".split()

# L6 and L7.
NODES = """Module FunctionDef ClassDef Return Assign AugAssign For While If Raise Try ExceptHandler ImportFrom alias Expr
Pass Break Continue BoolOp BinOp UnaryOp Lambda IfExp Dict Set ListComp comprehension Compare Call JoinedStr
FormattedValue Constant Attribute Subscript Name List Tuple Slice Load Store And Or Add Sub Mult Mod Pow LShift RShift
BitOr BitXor BitAnd FloorDiv Invert Not UAdd USub Eq NotEq Lt LtE Gt GtE Is IsNot In NotIn arguments arg keyword""".split()

# L26.
FREE_VALUES = "count index title find get join lower upper split strip copy add".split()
FREE_METHODS = OWN_METHODS + ["add", "discard"]

# L23.
WALKED_AT_ONCE = "zip enumerate reversed range items keys values".split()
WALKERS = "list tuple dict sorted sum any all enumerate zip min max".split()


def files():
    return sorted(path for path in PACKAGE.iterdir() if path.name != "__pycache__")


def bound_names(tree):
    for node in ast.walk(tree):
        if isinstance(node, (ast.FunctionDef, ast.ClassDef)):
            yield node.name
        elif isinstance(node, ast.arg):
            yield node.arg
        elif isinstance(node, ast.Name) and isinstance(node.ctx, ast.Store):
            yield node.id
        elif isinstance(node, ast.ExceptHandler) and node.name:
            yield node.name


def methods_of_own_values():
    return {name for kind in (str, int, list, dict, tuple, set, bytes) for name in dir(kind)}


def each_tree():
    return [(path, ast.parse(path.read_text(encoding="ascii"))) for path in files()]


def each_node():
    for path, tree in each_tree():
        for node in ast.walk(tree):
            yield f"{path.name}, line {getattr(node, 'lineno', 0)}", node


# Each node with the one that it stands in.
def each_pair():
    for where, node in each_node():
        for inner in ast.iter_child_nodes(node):
            yield where, node, inner


def each_class():
    for path, tree in each_tree():
        for node in [node for node in tree.body if isinstance(node, ast.ClassDef)]:
            yield path.name, node


def methods_in(node):
    return [inner.name for inner in node.body if isinstance(inner, ast.FunctionDef)]


def values_in(node):
    return [inner.attr for inner in ast.walk(node) if isinstance(inner, ast.Attribute) and isinstance(inner.ctx, ast.Store)]


# Whether a class's name stands where L18 lets it stand.
def may_name_a_class(outer, inner):
    if isinstance(outer, ast.Call):
        return outer.func is inner or called_name(outer) == "isinstance" and outer.args[1] is inner
    # A base's __init__ is called by the base's name (L28).
    return isinstance(outer, (ast.ClassDef, ast.ExceptHandler)) or getattr(outer, "attr", None) == "__init__"


def top_names(node):
    if isinstance(node, ast.ImportFrom):
        return [name.name for name in node.names]
    if isinstance(node, ast.Assign):
        return [target.id for target in node.targets]
    return [node.name] if isinstance(node, (ast.FunctionDef, ast.ClassDef)) else []


def called_name(node):
    if not isinstance(node, ast.Call):
        return None
    return node.func.id if isinstance(node.func, ast.Name) else getattr(node.func, "attr", None)


def is_walked(outer, inner):
    if isinstance(outer, (ast.For, ast.comprehension)):
        return outer.iter is inner
    return called_name(outer) in WALKERS and outer.args[0] is inner or called_name(outer) == "zip"


class Form(unittest.TestCase):
    def test_files_and_signs(self):
        self.assertTrue((PACKAGE / "__init__.py").is_file())
        for path in files():
            with self.subTest(path.name):
                self.assertRegex(path.name, r"^[a-z0-9_]+\.py$")
                text = path.read_bytes().decode("ascii")
                self.assertEqual([sign for sign in text if sign != "\n" and not " " <= sign <= "~"], [])
                self.assertLessEqual(len(text.splitlines()), 400)
                self.assertLessEqual(max([len(row) for row in text.splitlines()], default=0), 120)

    def test_words_that_stand_nowhere(self):
        for path in files():
            with self.subTest(path.name):
                text = path.read_text(encoding="ascii")
                words = set(re.findall(r"\w+", text))
                self.assertEqual(sorted(words & set(WORDS_NOWHERE)), [])
                self.assertIsNone(re.search("dataclass|overload|contextmanager", text))

    def test_statements_and_expressions(self):
        for where, node in each_node():
            self.assertIn(type(node).__name__, NODES, where)
            if isinstance(node, ast.FunctionDef):
                self.assertLessEqual(node.end_lineno - node.lineno + 1, 40, where)
                self.assertIsNone(node.args.vararg or node.args.kwarg, where)
                self.assertEqual(node.args.kwonlyargs + node.decorator_list, [], where)
            if isinstance(node, ast.ClassDef):
                self.assertLessEqual(len(node.bases), 1, where)
                self.assertEqual(node.keywords + node.decorator_list, [], where)
            if isinstance(node, (ast.For, ast.While)):
                self.assertEqual(node.orelse, [], where)
            if isinstance(node, ast.Try):
                self.assertEqual(node.finalbody, [], where)
            if isinstance(node, ast.Assign):
                self.assertEqual(len(node.targets), 1, where)

    def test_constants(self):
        for where, node in each_node():
            if isinstance(node, ast.Constant):
                self.assertIn(type(node.value), (int, str, bool, type(None)), where)
                self.assertNotIn("%", str(node.value), where)
            if isinstance(node, ast.BinOp) and isinstance(node.op, ast.Pow):
                self.assertIsInstance(node.right, ast.Constant, where)
            if isinstance(node, ast.Compare) and isinstance(node.ops[0], (ast.Is, ast.IsNot)):
                self.assertIn(ast.unparse(node.comparators[0]), ("None", "True", "False"), where)

    def test_imports(self):
        for path, tree in each_tree():
            for node in [node for node in ast.walk(tree) if isinstance(node, ast.ImportFrom)]:
                self.assertIn(node, tree.body, path.name)
                self.assertEqual(node.level, 0, path.name)
                self.assertRegex(node.module, r"^wardsmith\.[a-z0-9_]+$", path.name)
                drawn = ast.parse((PACKAGE / (node.module.split(".")[1] + ".py")).read_text(encoding="ascii"))
                for name in node.names:
                    self.assertIsNone(name.asname, path.name)
                    self.assertIn(name.name, list(bound_names(drawn)), path.name)

    def test_no_two_files_draw_from_one_another(self):
        draws = {path.stem: {node.module.split(".")[1] for node in ast.walk(tree) if isinstance(node, ast.ImportFrom)}
                 for path, tree in each_tree()}
        while draws:
            free = [name for name in draws if not draws[name] & set(draws)]
            self.assertNotEqual(free, [], draws)
            draws = {name: drawn for name, drawn in draws.items() if name not in free}

    def test_bound_names(self):
        for path, tree in each_tree():
            for name in bound_names(tree):
                if name not in DOUBLE_METHODS:
                    self.assertRegex(name, r"^[A-Za-z][A-Za-z0-9_]*$", path.name)
                    self.assertNotIn(name, NAMES_NOWHERE, path.name)

    def test_names_of_pythons_own(self):
        for where, node in each_node():
            if isinstance(node, ast.Name):
                self.assertNotIn(node.id, NAMES_NOWHERE, where)
                if hasattr(builtins, node.id):
                    self.assertIn(node.id, OWN_NAMES, where)
                    self.assertIsInstance(node.ctx, ast.Load, where)
            if isinstance(node, ast.arg):
                self.assertFalse(hasattr(builtins, node.arg), where)

    def test_methods(self):
        taken = methods_of_own_values()
        for where, node in each_node():
            if isinstance(node, ast.Attribute):
                self.assertNotIn(node.attr, NAMES_NOWHERE, where)
                if node.attr in taken and node.attr not in DOUBLE_METHODS:
                    self.assertIn(node.attr, OWN_METHODS, where)

    def test_sets_are_asked_on_the_spot(self):
        for where, outer, inner in each_pair():
            if called_name(inner) in ("set", "frozenset") or isinstance(inner, ast.Set):
                spot = isinstance(outer, (ast.Compare, ast.BinOp)) or called_name(outer) in ("sorted", "len")
                self.assertTrue(spot, where)

    def test_what_is_walked_at_once(self):
        for where, outer, inner in each_pair():
            if called_name(inner) in WALKED_AT_ONCE:
                self.assertTrue(is_walked(outer, inner), where)

    def test_comprehensions(self):
        for where, node in each_node():
            if isinstance(node, ast.ListComp):
                self.assertEqual(len(node.generators), 1, where)
                self.assertLessEqual(len(node.generators[0].ifs), 1, where)

    def test_f_strings_hold_plain_names(self):
        for where, node in each_node():
            if isinstance(node, ast.FormattedValue):
                self.assertIsInstance(node.value, ast.Name, where)
                self.assertIsNone(node.format_spec, where)

    def test_lists_and_dicts_of_the_top_hold_no_others(self):
        for path, tree in each_tree():
            for node in [node.value for node in tree.body if isinstance(node, ast.Assign)]:
                inner = [part for part in ast.walk(node) if isinstance(part, (ast.List, ast.Dict)) and part is not node]
                self.assertEqual(inner, [], path.name)

    def test_values_and_methods_of_classes(self):
        taken = methods_of_own_values()
        methods = [name for _, node in each_class() for name in methods_in(node) if name not in DOUBLE_METHODS]
        values = [name for _, node in each_class() for name in values_in(node)]
        self.assertEqual([name for name in methods if name in taken and name not in FREE_METHODS], [])
        self.assertEqual([name for name in values if name in taken and name not in FREE_VALUES], [])
        self.assertNotIn("args", values)
        self.assertEqual(sorted(set(methods) & set(values)), [])
        for where, node in each_class():
            self.assertEqual(sorted(methods_in(node)), sorted(set(methods_in(node))), where)
            self.assertEqual([inner for inner in node.body if not isinstance(inner, (ast.FunctionDef, ast.Pass))], [], where)

    def test_where_classes_stand(self):
        classes = [node.name for _, node in each_class()]
        for where, outer, inner in each_pair():
            if isinstance(inner, ast.Name) and inner.id in classes:
                self.assertTrue(may_name_a_class(outer, inner), where)

    def test_errors_are_taken_by_name(self):
        for where, node in each_node():
            if isinstance(node, ast.ExceptHandler):
                self.assertIsInstance(node.type, ast.Name, where)
                self.assertFalse(hasattr(builtins, node.type.id), where)
            if isinstance(node, ast.Raise):
                self.assertIsInstance(node.exc, ast.Call, where)

    def test_names_within_functions_are_no_names_of_classes_or_imports(self):
        for path, tree in each_tree():
            taken = [name.name for node in tree.body if isinstance(node, ast.ImportFrom) for name in node.names]
            taken += [node.name for node in tree.body if isinstance(node, ast.ClassDef)]
            for function in [node for node in ast.walk(tree) if isinstance(node, ast.FunctionDef)]:
                inside = [name for part in [function.args] + function.body for name in bound_names(part)]
                self.assertEqual([name for name in inside if name in taken], [], f"{path.name}, {function.name}")

    def test_names_of_the_top_are_bound_once(self):
        for path, tree in each_tree():
            bound = [name for node in tree.body for name in top_names(node)]
            self.assertEqual(sorted(bound), sorted(set(bound)), path.name)


if __name__ == "__main__":
    unittest.main()
