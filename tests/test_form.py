"""The form of the package's files: the rules of the language that can be seen from outside."""

import ast
import builtins
import pathlib
import re
import unittest

PACKAGE = pathlib.Path(__file__).resolve().parent.parent / "classeditions"
FILES = sorted(path for path in PACKAGE.rglob("*") if "__pycache__" not in path.parts)

STATEMENTS = (ast.Module, ast.FunctionDef, ast.ClassDef, ast.Assign, ast.AugAssign, ast.If, ast.While, ast.For,
              ast.Return, ast.Break, ast.Continue, ast.Pass, ast.Raise, ast.Expr, ast.ImportFrom)
EXPRESSIONS = (ast.Constant, ast.List, ast.Tuple, ast.Dict, ast.BinOp, ast.UnaryOp, ast.BoolOp, ast.Compare, ast.IfExp,
               ast.Call, ast.Attribute, ast.Subscript, ast.Slice, ast.ListComp, ast.Name)
PARTS = (ast.arguments, ast.arg, ast.alias, ast.keyword, ast.comprehension, ast.expr_context, ast.operator,
         ast.unaryop, ast.boolop, ast.cmpop)
OWN_OF_PYTHON = set("""len range enumerate zip min max sum abs sorted reversed int str bool list tuple dict set
    isinstance ord repr any all divmod NotImplementedError ValueError Exception KeyError""".split())
METHODS = set("""append clear copy count endswith extend find get index insert isalnum isalpha isdigit islower isspace
    isupper items join keys ljust lower lstrip partition pop remove replace reverse rfind rjust rpartition rsplit rstrip
    setdefault split splitlines startswith strip update upper values zfill bit_length""".split())
WORDS = re.compile(r"\b(type|typing|typing_extensions|enum|Enum|IntEnum|StrEnum|Flag|IntFlag|Generic|Protocol|ABC"
                   r"|ABCMeta|namedtuple|NamedTuple|TypedDict|TYPE_CHECKING|abstractmethod)\b"
                   r"|dataclass|overload|contextmanager")
NOT_USED = set("""register mro elements open input version_info with_traceback add_note attrgetter breakpoint builtins
    compile copyright credits delattr dir eval exec exit gc getattr globals hasattr help id importlib license locals
    methodcaller os quit setattr super type vars sys""".split())
TAKEN = set().union(*[dir(kind) for kind in (str, int, list, dict, set, bytes, tuple)])


def trees():
    return [(path.stem, ast.parse(path.read_text())) for path in FILES]


def nodes():
    return [(name, node) for name, tree in trees() for node in ast.walk(tree)]


class Form(unittest.TestCase):
    def test_files(self):
        self.assertIn("desk.py", [path.name for path in FILES])
        for path in FILES:
            self.assertRegex(path.name, r"\A(__init__|[a-z][a-z0-9_]*)\.py\Z")
            self.assertNotIn(path.stem, dir(builtins))
            told = path.read_bytes()
            self.assertEqual([byte for byte in told if byte != 10 and not 32 <= byte <= 126], [], path.name)
            rows = told.decode().splitlines()
            self.assertLessEqual(len(rows), 400, path.name)
            self.assertLessEqual(max(map(len, rows)), 120, path.name)
            self.assertIsNone(WORDS.search(told.decode()), path.name)

    def test_kinds_of_node(self):
        for name, node in nodes():
            self.assertIsInstance(node, STATEMENTS + EXPRESSIONS + PARTS, name)
            self.assertNotIsInstance(node, (ast.Div, ast.MatMult), name)
            if isinstance(node, ast.Constant):
                self.assertIn(type(node.value), (int, str, bool, type(None)), name)
            if isinstance(node, ast.BinOp) and isinstance(node.op, ast.Pow):
                self.assertIsInstance(node.right, ast.Constant, name)
            if isinstance(node, (ast.For, ast.While)):
                self.assertEqual(node.orelse, [], name)
            if isinstance(node, ast.Assign):
                self.assertEqual(len(node.targets), 1, name)
            if isinstance(node, ast.ListComp):
                self.assertEqual(len(node.generators), 1, name)
                self.assertLessEqual(len(node.generators[0].ifs), 1, name)
            if isinstance(node, ast.Compare):
                for operator, right in zip(node.ops, node.comparators):
                    if isinstance(operator, (ast.Is, ast.IsNot)):
                        self.assertIsInstance(right, ast.Constant, name)

    def test_functions(self):
        for name, node in nodes():
            if isinstance(node, ast.FunctionDef):
                told = node.args
                self.assertLessEqual(node.end_lineno - node.lineno + 1, 40, node.name)
                self.assertEqual([node.decorator_list, told.vararg, told.kwarg, told.kwonlyargs, told.posonlyargs,
                                  node.returns], [[], None, None, [], [], None], node.name)
            if isinstance(node, ast.arg):
                self.assertIsNone(node.annotation, name)

    def test_tops(self):
        for name, tree in trees():
            self.assertIsNotNone(ast.get_docstring(tree), name)
            bound = []
            for node in tree.body[1:]:
                self.assertIsInstance(node, (ast.ImportFrom, ast.FunctionDef, ast.ClassDef, ast.Assign), name)
                if isinstance(node, ast.Assign):
                    bound.append(node.targets[0].id)
                    value = ast.literal_eval(node.value)
                    within = list(value.values()) if isinstance(value, dict) else value
                    if isinstance(within, list):
                        self.assertFalse([each for each in within if isinstance(each, (list, dict))], name)
                elif isinstance(node, ast.ImportFrom):
                    bound.extend(each.name for each in node.names)
                else:
                    bound.append(node.name)
            self.assertEqual(len(bound), len(set(bound)), name)

    def test_imports(self):
        drawn = {name: set() for name, tree in trees()}
        tops = {name: {each for node in tree.body if not isinstance(node, ast.ImportFrom)
                       for each in [getattr(node, "name", None) or getattr(getattr(node, "targets", [None])[0], "id", None)]}
                for name, tree in trees()}
        for name, node in nodes():
            if isinstance(node, ast.ImportFrom):
                self.assertEqual(node.level, 0, name)
                package, dot, module = node.module.partition(".")
                self.assertEqual(package, "classeditions", name)
                drawn[name].add(module)
                for each in node.names:
                    self.assertIn(each.name, tops[module], name)
        while drawn:
            free = [name for name in drawn if not drawn[name]]
            self.assertTrue(free, "files draw from one another: %s" % sorted(drawn))
            drawn = {name: drawn[name] - set(free) for name in drawn if name not in free}

    def test_names(self):
        for name, node in nodes():
            if isinstance(node, (ast.FunctionDef, ast.ClassDef)):
                if node.name != "__init__":
                    self.assertRegex(node.name, r"\A[A-Za-z][A-Za-z0-9_]*\Z")
            for bound in [getattr(node, "arg", None)] + ([node.id] if isinstance(node, ast.Name)
                                                         and isinstance(node.ctx, ast.Store) else []):
                if bound is not None:
                    self.assertRegex(bound, r"\A[A-Za-z][A-Za-z0-9_]*\Z", name)
                    self.assertNotIn(bound, dir(builtins), name)
            if isinstance(node, ast.Name) and node.id in dir(builtins):
                self.assertIn(node.id, OWN_OF_PYTHON, name)

    def test_names_that_are_not_used(self):
        for name, node in nodes():
            told = [getattr(node, part, None) for part in ("id", "attr", "arg", "name")]
            self.assertEqual(NOT_USED & {each for each in told if isinstance(each, str)}, set(), name)

    def test_no_local_is_called_like_a_class_or_an_import(self):
        for name, tree in trees():
            tops = {each.name for node in tree.body if isinstance(node, ast.ImportFrom) for each in node.names}
            tops |= {node.name for node in tree.body if isinstance(node, ast.ClassDef)}
            for node in ast.walk(tree):
                if isinstance(node, ast.FunctionDef):
                    bound = {each.arg for each in ast.walk(node) if isinstance(each, ast.arg)}
                    bound |= {each.id for each in ast.walk(node)
                              if isinstance(each, ast.Name) and isinstance(each.ctx, ast.Store)}
                    self.assertEqual(bound & tops, set(), name)

    def test_sets_are_asked_on_the_spot_or_sorted(self):
        for name, tree in trees():
            within = [id(node.args[0]) for node in ast.walk(tree) if isinstance(node, ast.Call)
                      and isinstance(node.func, ast.Name) and node.func.id in ("sorted", "len") and not node.keywords]
            for node in ast.walk(tree):
                if isinstance(node, ast.Call) and isinstance(node.func, ast.Name) and node.func.id == "set":
                    self.assertIn(id(node), within, name)

    def test_methods_and_values(self):
        methods = {each.name for name, node in nodes() if isinstance(node, ast.ClassDef) for each in node.body
                   if isinstance(each, ast.FunctionDef)} - {"__init__"}
        values = {node.attr for name, node in nodes()
                  if isinstance(node, ast.Attribute) and isinstance(node.ctx, ast.Store)}
        self.assertEqual(methods & values, set())
        self.assertEqual((methods | values) & TAKEN, set())
        for name, node in nodes():
            if isinstance(node, ast.Attribute):
                self.assertIn(node.attr, methods | values | METHODS, name)


if __name__ == "__main__":
    unittest.main()
