"""Holds the package's files against those rules of LANGUAGE.md that can be seen in them."""

import ast
import builtins
import pathlib
import re
import unittest

PACKAGE = pathlib.Path(__file__).resolve().parent.parent / "fewopen"
ERRORS = {"Exception", "ValueError", "TypeError", "KeyError", "IndexError", "LookupError",
          "ZeroDivisionError", "ArithmeticError", "OverflowError", "RuntimeError",
          "NotImplementedError", "AttributeError", "StopIteration"}
OWN_NAMES = {"len", "range", "enumerate", "zip", "min", "max", "sum", "abs", "sorted", "reversed",
             "int", "str", "bool", "list", "tuple", "dict", "set", "frozenset", "isinstance",
             "ord", "repr", "any", "all", "divmod"} | ERRORS
METHODS = set("""append clear copy count endswith extend find get index insert isalnum isalpha
    isdigit islower isspace isupper items join keys ljust lower lstrip partition pop remove replace
    reverse rfind rjust rpartition rsplit rstrip setdefault split splitlines startswith strip
    update upper values zfill bit_length""".split())
DOUBLES = {"__init__", "__eq__", "__repr__", "__str__", "__len__"}
UNUSED = {"register", "mro", "elements", "open", "input", "version_info", "with_traceback",
          "add_note", "format", "format_map"}
BANNED_WORDS = re.compile(
    r"\b(type|typing|typing_extensions|enum|Enum|IntEnum|StrEnum|Flag|IntFlag|Generic|Protocol|ABC"
    r"|ABCMeta|namedtuple|NamedTuple|TypedDict|TYPE_CHECKING|abstractmethod)\b"
    r"|dataclass|overload|contextmanager")
NODES = (ast.Module, ast.FunctionDef, ast.ClassDef, ast.arguments, ast.arg, ast.Lambda,
         ast.Assign, ast.AugAssign, ast.If, ast.While, ast.For, ast.Return, ast.Break,
         ast.Continue, ast.Pass, ast.Raise, ast.Try, ast.ExceptHandler, ast.Expr, ast.ImportFrom,
         ast.alias, ast.Constant, ast.List, ast.Tuple, ast.Dict, ast.BinOp, ast.operator,
         ast.UnaryOp, ast.unaryop, ast.Compare, ast.cmpop, ast.BoolOp, ast.boolop, ast.IfExp,
         ast.Call, ast.keyword, ast.Attribute, ast.Subscript, ast.Slice, ast.ListComp,
         ast.comprehension, ast.JoinedStr, ast.FormattedValue, ast.Name, ast.expr_context)
PLAIN = ("None", "True", "False")
WALKED = {"zip", "enumerate", "reversed", "range"}
WALKERS = {"list", "tuple", "dict", "sorted", "sum", "any", "all", "enumerate", "zip", "min", "max"}


def texts_faults(text):
    faults = []
    for number, line in enumerate(text.split("\n"), start=1):
        if len(line) > 120:
            faults.append(f"L10 line {number} is too long")
        if not all(" " <= sign <= "~" for sign in line):
            faults.append(f"L14 line {number} has a sign from beyond")
        if BANNED_WORDS.search(line):
            faults.append(f"L17 line {number} has a word that is not used")
    if text.count("\n") > 400:
        faults.append("L10 the file is too long")
    return faults


def parent_map(tree):
    return {child: node for node in ast.walk(tree) for child in ast.iter_child_nodes(node)}


def is_docstring(node, tree):
    return node == tree.body[0] and isinstance(node.value, ast.Constant)


def statement_faults(node, tree, parents):
    if not isinstance(node, NODES):
        yield "L6/L7 form"
    if isinstance(node, ast.Expr) and not isinstance(node.value, ast.Call) \
            and not is_docstring(node, tree):
        yield "L6 a value by itself"
    if isinstance(node, ast.Assign) and (
            len(node.targets) > 1 or isinstance(node.targets[0], (ast.Tuple, ast.List))):
        yield "L6 one target"
    if isinstance(node, (ast.For, ast.While)) and node.orelse:
        yield "L6 else behind a loop"
    if isinstance(node, ast.Try) and node.finalbody:
        yield "L6 finally"
    if isinstance(node, ast.ImportFrom) and (
            node.level or not re.fullmatch(r"fewopen\.[a-z_]+", node.module or "")
            or not isinstance(parents[node], ast.Module)
            or any(alias.name == "*" for alias in node.names)):
        yield "L2/L16 import"
    if isinstance(node, ast.Raise) and not isinstance(node.exc, ast.Call):
        yield "L19 raise"
    if isinstance(node, ast.ExceptHandler) and (
            node.type is None or ast.unparse(node.type) in ("Exception", "TypeError")):
        yield "L19 except"
    if isinstance(node, ast.ClassDef) and (
            len(node.bases) > 1 or not isinstance(parents[node], ast.Module)
            or not all(isinstance(part, (ast.FunctionDef, ast.Pass)) for part in node.body)):
        yield "L5/L15 class"


def expression_faults(node, parents):
    if isinstance(node, ast.Constant) and not (
            node.value is None or isinstance(node.value, (int, str))):
        yield "L7 value"
    if isinstance(node, ast.Constant) and isinstance(node.value, str) and "%" in node.value:
        yield "L27 a sign in a text"
    if isinstance(node, ast.Div):
        yield "L7 /"
    if isinstance(node, ast.BinOp) and isinstance(node.op, ast.Pow) \
            and not isinstance(node.right, ast.Constant):
        yield "L27 **"
    if isinstance(node, ast.Compare) and any(
            isinstance(op, (ast.Is, ast.IsNot)) and ast.unparse(right) not in PLAIN
            for op, right in zip(node.ops, node.comparators)):
        yield "L20 is"
    if isinstance(node, ast.ListComp) and (
            len(node.generators) > 1 or len(node.generators[0].ifs) > 1):
        yield "L7 comprehension"
    if isinstance(node, ast.FormattedValue) and (
            not isinstance(node.value, ast.Name) or node.format_spec):
        yield "L7 f-string"
    if isinstance(node, ast.Call) and walked_later(node, parents):
        yield "L23 walked at once"


def walked_later(node, parents):
    name = node.func.id if isinstance(node.func, ast.Name) else None
    method = node.func.attr if isinstance(node.func, ast.Attribute) else None
    if name not in WALKED and method not in ("items", "keys", "values"):
        return False
    above = parents[node]
    if isinstance(above, (ast.For, ast.comprehension)):
        return above.iter != node
    return not (isinstance(above, ast.Call) and isinstance(above.func, ast.Name)
                and above.func.id in WALKERS)


def bound_names(tree):
    names = []
    for node in ast.walk(tree):
        if isinstance(node, (ast.FunctionDef, ast.ClassDef)):
            names.append(node.name)
        elif isinstance(node, ast.arg):
            names.append(node.arg)
        elif isinstance(node, ast.Name) and isinstance(node.ctx, ast.Store):
            names.append(node.id)
        elif isinstance(node, ast.alias):
            names.append(node.asname or node.name)
        elif isinstance(node, ast.ExceptHandler) and node.name:
            names.append(node.name)
    return names


def name_faults(tree):
    bound = bound_names(tree)
    for name in bound:
        if name not in DOUBLES and (not re.fullmatch(r"[A-Za-z][A-Za-z0-9_]*", name)
                                    or hasattr(builtins, name) or name in UNUSED):
            yield f"L12/L15/L17 name {name}"
    methods = {part.name for node in ast.walk(tree) if isinstance(node, ast.ClassDef)
               for part in node.body if isinstance(part, ast.FunctionDef)}
    for node in ast.walk(tree):
        if isinstance(node, ast.Name) and node.id not in bound and node.id not in OWN_NAMES:
            yield f"L8 name {node.id}"
        if isinstance(node, ast.Attribute) and node.attr in UNUSED:
            yield f"L8/L17 attribute {node.attr}"
        if isinstance(node, ast.Call) and isinstance(node.func, ast.Attribute) \
                and node.func.attr not in METHODS | DOUBLES | methods:
            yield f"L25 method {node.func.attr}"


def def_faults(tree):
    for node in ast.walk(tree):
        if isinstance(node, ast.FunctionDef):
            listed = node.args
            if node.decorator_list or listed.vararg or listed.kwarg or listed.kwonlyargs:
                yield f"L4 {node.name}"
            if node.returns or any(arg.annotation for arg in listed.args):
                yield f"L21 {node.name}"
            if node.end_lineno - node.lineno >= 40:
                yield f"L10 {node.name} is too long"


def shadow_faults(tree):
    taken = [alias.name for node in tree.body if isinstance(node, ast.ImportFrom)
             for alias in node.names]
    taken += [node.name for node in tree.body if isinstance(node, ast.ClassDef)]
    for node in tree.body:
        if isinstance(node, (ast.FunctionDef, ast.ClassDef)):
            for name in bound_names(ast.Module([node], []))[1:]:
                if name in taken:
                    yield f"L15 {name} is a class or an import of the file"


def top_faults(tree):
    names = [name for part in tree.body if not isinstance(part, ast.Expr)
             for name in bound_names(ast.Module([part], []))[:1]]
    for name in names:
        if names.count(name) > 1:
            yield f"L15 {name} is bound twice"
    for number, part in enumerate(tree.body):
        if not isinstance(part, (ast.ImportFrom, ast.FunctionDef, ast.ClassDef, ast.Assign)) \
                and not (number == 0 and isinstance(part, ast.Expr)):
            yield "L3 the top"


def faults_of(text):
    tree = ast.parse(text)
    parents = parent_map(tree)
    faults = texts_faults(text)
    for node in ast.walk(tree):
        for fault in [*statement_faults(node, tree, parents), *expression_faults(node, parents)]:
            faults.append(f"{fault} at line {getattr(node, 'lineno', '?')}")
    return [*faults, *name_faults(tree), *def_faults(tree), *shadow_faults(tree),
            *top_faults(tree)]


def drawn_from(text):
    return [node.module.split(".")[1] for node in ast.walk(ast.parse(text))
            if isinstance(node, ast.ImportFrom)]


def files_of(folder):
    return sorted(path for path in folder.rglob("*") if "__pycache__" not in path.parts)


class Language(unittest.TestCase):
    def test_only_plain_files_lie_in_the_package(self):
        for path in files_of(PACKAGE):
            self.assertTrue(path.is_file() and path.parent == PACKAGE, path)
            self.assertRegex(path.name, r"^([a-z][a-z0-9_]*|__init__|__main__)\.py$")
            self.assertFalse(path.stem[0] != "_" and hasattr(builtins, path.stem), path)

    def test_each_file_keeps_to_the_rules(self):
        for path in files_of(PACKAGE):
            with self.subTest(path.name):
                self.assertEqual(faults_of(path.read_text(encoding="utf-8")), [])

    def test_no_two_files_draw_from_one_another(self):
        draws = {path.stem: drawn_from(path.read_text()) for path in files_of(PACKAGE)}
        self.assertEqual(draws["__init__"], [])
        while draws:
            free = [name for name in draws if not set(draws[name]) & set(draws)]
            self.assertTrue(free, draws)
            for name in free:
                draws.pop(name)

    def test_the_check_itself_finds_a_local_called_like_an_import(self):
        text = '"""A file."""\n\nfrom fewopen.b import two\n\n\ndef one(a):\n    {} = a\n'
        self.assertEqual(faults_of(text.replace("{}", "three")), [])
        self.assertNotEqual(faults_of(text.replace("{}", "two")), [])

    def test_the_check_itself_finds_what_is_outside(self):
        inside = '"""A file."""\n\n\ndef two(a):\n    return [x + 1 for x in a]\n'
        self.assertEqual(faults_of(inside), [])
        for line in ("a = b = 1", "a, b = 1, 2", "a / 2", "return 1.5", "return {1, 2}", "x = type(a)",
                     "yield a", "assert a", "del a", "import os", "return a.sort()",
                     "return (x for x in a)", "return 2 ** a", "return a is 1", "x = range(3)",
                     "raise KeyError", "return f'{a + 1}'", "list = a", "return '%'", "global x",
                     "return pow(a, 2)", "'a text by itself'", "return '\u00e4'", "x: int = 1",
                     "_x = 1", "with a: pass", "return [*a]", "return (b := a)"):
            with self.subTest(line):
                self.assertNotEqual(faults_of(f'"""A file."""\n\n\ndef two(a):\n    {line}\n'), [])


if __name__ == "__main__":
    unittest.main()
