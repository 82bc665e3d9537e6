"""Those rules of the program's part of Python that can be seen file by file."""

import ast
import builtins
import pathlib
import re
import unittest

PACKAGE = pathlib.Path(__file__).resolve().parent.parent / "cardshop"

NODES = {
    "Module", "ImportFrom", "alias", "FunctionDef", "arguments", "arg", "ClassDef", "Lambda", "Assign", "AugAssign",
    "If", "While", "For", "Return", "Break", "Continue", "Pass", "Raise", "Try", "ExceptHandler", "Expr", "Constant",
    "List", "Tuple", "Dict", "Set", "BinOp", "UnaryOp", "BoolOp", "Compare", "IfExp", "Call", "keyword", "Attribute",
    "Subscript", "Slice", "ListComp", "comprehension", "JoinedStr", "FormattedValue", "Name", "Load", "Store",
    "Add", "Sub", "Mult", "FloorDiv", "Mod", "Pow", "BitAnd", "BitOr", "BitXor", "LShift", "RShift", "Invert",
    "USub", "UAdd", "Not", "And", "Or", "Eq", "NotEq", "Lt", "LtE", "Gt", "GtE", "In", "NotIn", "Is", "IsNot",
}
TOP_NODES = (ast.Expr, ast.ImportFrom, ast.FunctionDef, ast.ClassDef, ast.Assign)
OWN_NAMES = set(
    "len range enumerate zip min max sum abs sorted reversed int str bool list tuple dict set frozenset isinstance "
    "ord repr any all divmod Exception ValueError TypeError KeyError IndexError LookupError ZeroDivisionError "
    "ArithmeticError OverflowError RuntimeError NotImplementedError AttributeError StopIteration".split())
METHODS = set(
    "append clear copy count endswith extend find get index insert isalnum isalpha isdigit islower isspace isupper "
    "items join keys ljust lower lstrip partition pop remove replace reverse rfind rjust rpartition rsplit rstrip "
    "setdefault split splitlines startswith strip update upper values zfill bit_length".split())
DUNDERS = {"__init__", "__eq__", "__repr__", "__str__", "__len__"}
WORDS = re.compile(
    r"\b(type|typing|typing_extensions|enum|Enum|IntEnum|StrEnum|Flag|IntFlag|Generic|Protocol|ABC|ABCMeta|"
    r"namedtuple|NamedTuple|TypedDict|TYPE_CHECKING|abstractmethod)\b|dataclass|overload|contextmanager")


def files():
    return sorted(PACKAGE.glob("*.py"))


def nodes_of(path):
    return list(ast.walk(ast.parse(path.read_text(encoding="utf-8"))))


def own_methods():
    found = set(DUNDERS)
    for path in files():
        for node in nodes_of(path):
            if isinstance(node, ast.ClassDef):
                found.update([part.name for part in node.body if isinstance(part, ast.FunctionDef)])
    return found


class Language(unittest.TestCase):

    def each_node(self, *kinds):
        for path in files():
            for node in nodes_of(path):
                if isinstance(node, kinds):
                    yield node, f"{path.name}:{getattr(node, 'lineno', 0)}"

    def test_the_folder_holds_plain_files_alone(self):
        names = [path.name for path in PACKAGE.iterdir() if path.name != "__pycache__"]
        self.assertIn("__init__.py", names)
        for name in names:
            self.assertRegex(name, r"\A([a-z][a-z0-9_]*|__init__|__main__)\.py\Z")

    def test_signs_words_and_sizes(self):
        for path in files():
            text = path.read_text(encoding="utf-8")
            self.assertRegex(text, r"\A[ -~\n]*\Z", path.name)
            self.assertIsNone(WORDS.search(text), path.name)
            rows = text.split("\n")
            self.assertLessEqual(len(rows), 400, path.name)
            self.assertLessEqual(max([len(row) for row in rows]), 120, path.name)

    def test_sizes_of_functions(self):
        for node, at in self.each_node(ast.FunctionDef):
            self.assertLessEqual(node.end_lineno - node.lineno + 1, 40, at)
            self.assertEqual(node.decorator_list, [], at)
            self.assertIsNone(node.args.vararg or node.args.kwarg, at)
            self.assertEqual(node.args.kwonlyargs + node.args.posonlyargs, [], at)

    def test_forms(self):
        for node, at in self.each_node(ast.AST):
            self.assertIn(type(node).__name__, NODES, at)

    def test_tops_of_files(self):
        for path in files():
            bound = []
            for node in ast.parse(path.read_text(encoding="utf-8")).body:
                self.assertIsInstance(node, TOP_NODES, path.name)
                if isinstance(node, ast.Expr):
                    self.assertIsInstance(node.value, ast.Constant, path.name)
                if isinstance(node, ast.Assign):
                    bound.append(node.targets[0].id)
                if isinstance(node, (ast.FunctionDef, ast.ClassDef)):
                    bound.append(node.name)
                if isinstance(node, ast.ImportFrom):
                    bound.extend([name.name for name in node.names])
            self.assertEqual(len(bound), len(set(bound)), path.name)

    def test_imports_are_from_the_file_that_defines_the_name(self):
        for node, at in self.each_node(ast.ImportFrom):
            self.assertEqual(node.level, 0, at)
            package, name = node.module.split(".")
            self.assertEqual(package, "cardshop", at)
            top = ast.parse((PACKAGE / f"{name}.py").read_text(encoding="utf-8")).body
            defined = [part.name for part in top if isinstance(part, (ast.FunctionDef, ast.ClassDef))]
            defined.extend([part.targets[0].id for part in top if isinstance(part, ast.Assign)])
            for drawn in node.names:
                self.assertIsNone(drawn.asname, at)
                self.assertIn(drawn.name, defined, at)

    def test_names(self):
        for node, at in self.each_node(ast.Name):
            self.assertFalse(node.id.startswith("_"), at)
            if hasattr(builtins, node.id):
                self.assertIn(node.id, OWN_NAMES, at)
                self.assertIsInstance(node.ctx, ast.Load, at)
        for node, at in self.each_node(ast.arg):
            self.assertFalse(node.arg.startswith("_") or hasattr(builtins, node.arg), at)

    def test_locals_are_not_called_like_imports_or_classes(self):
        for path in files():
            nodes = nodes_of(path)
            taken = {node.name for node in nodes if isinstance(node, ast.ClassDef)}
            for node in nodes:
                if isinstance(node, ast.ImportFrom):
                    taken.update([name.name for name in node.names])
            for node in nodes:
                if isinstance(node, ast.arg):
                    self.assertNotIn(node.arg, taken, f"{path.name}:{node.lineno}")
                if isinstance(node, ast.Name) and isinstance(node.ctx, ast.Store):
                    self.assertNotIn(node.id, taken, f"{path.name}:{node.lineno}")

    def test_no_name_is_a_method_and_a_value(self):
        methods = own_methods()
        for node, at in self.each_node(ast.Attribute):
            if isinstance(node.ctx, ast.Store):
                self.assertNotIn(node.attr, methods, at)
                for value in ["", 0, [], {}, (), set(), b""]:
                    self.assertFalse(hasattr(value, node.attr), at)

    def test_no_two_files_draw_from_one_another(self):
        drawn = {}
        for path in files():
            drawn[path.stem] = [node.module.split(".")[1] for node in nodes_of(path)
                                if isinstance(node, ast.ImportFrom)]
        while drawn:
            free = [name for name in drawn if not [other for other in drawn[name] if other in drawn]]
            self.assertNotEqual(free, [], drawn)
            for name in free:
                drawn.pop(name)

    def test_assignments_have_plain_targets(self):
        for node, at in self.each_node(ast.Assign):
            self.assertNotIsInstance(node.targets[0], (ast.Tuple, ast.List), at)

    def test_methods(self):
        allowed = METHODS | own_methods()
        for node, at in self.each_node(ast.Call):
            if isinstance(node.func, ast.Attribute):
                self.assertIn(node.func.attr, allowed, at)

    def test_operators(self):
        for node, at in self.each_node(ast.Assign):
            self.assertEqual(len(node.targets), 1, at)
        for node, at in self.each_node(ast.BinOp):
            if isinstance(node.op, ast.Pow):
                self.assertIsInstance(node.right, ast.Constant, at)
        for node, at in self.each_node(ast.Compare):
            if isinstance(node.ops[0], (ast.Is, ast.IsNot)):
                self.assertIsInstance(node.comparators[0], ast.Constant, at)
        for node, at in self.each_node(ast.For, ast.While, ast.Try):
            self.assertEqual([] if isinstance(node, ast.Try) else node.orelse, [], at)
            self.assertEqual(getattr(node, "finalbody", []), [], at)
        for node, at in self.each_node(ast.ListComp):
            self.assertEqual(len(node.generators), 1, at)
            self.assertLessEqual(len(node.generators[0].ifs), 1, at)
        for node, at in self.each_node(ast.Constant):
            self.assertIsInstance(node.value, (int, str, type(None)), at)


if __name__ == "__main__":
    unittest.main()
