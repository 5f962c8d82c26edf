"""The package's files keep to the part of Python that LANGUAGE.md tells, as far as a walk over them can see."""

import ast
import builtins
import pathlib
import re
import unittest

PACKAGE = pathlib.Path(__file__).resolve().parent.parent / "strandwright"

OWN_NAMES = set("""len range enumerate zip min max sum abs sorted reversed int str bool list tuple dict set frozenset
    isinstance ord repr any all divmod Exception ValueError TypeError KeyError IndexError LookupError ZeroDivisionError
    ArithmeticError OverflowError RuntimeError NotImplementedError AttributeError StopIteration""".split())
METHODS = set("""append clear copy count endswith extend find get index insert isalnum isalpha isdigit islower isspace
    isupper items join keys ljust lower lstrip partition pop remove replace reverse rfind rjust rpartition rsplit
    rstrip setdefault split splitlines startswith strip update upper values zfill bit_length""".split())
FORBIDDEN_NAMES = set("""register mro elements open input version_info with_traceback add_note attrgetter breakpoint
    builtins compile copyright credits delattr dir eval exec exit gc getattr globals hasattr help id importlib license
    locals methodcaller os quit setattr super type vars sys format format_map""".split())
FORBIDDEN_WORDS = re.compile(
    r"\b(type|typing|typing_extensions|enum|Enum|IntEnum|StrEnum|Flag|IntFlag|Generic|Protocol|ABC|ABCMeta|namedtuple"
    r"|NamedTuple|TypedDict|TYPE_CHECKING|abstractmethod)\b|dataclass|overload|contextmanager")
DUNDERS = {"__init__", "__eq__", "__repr__", "__str__", "__len__"}
STATEMENTS = (ast.Assign, ast.AugAssign, ast.If, ast.While, ast.For, ast.Return, ast.Break, ast.Continue, ast.Pass,
              ast.Raise, ast.Try, ast.Expr, ast.FunctionDef)
EXPRESSIONS = (ast.Constant, ast.Name, ast.List, ast.Tuple, ast.Dict, ast.Set, ast.BinOp, ast.UnaryOp, ast.BoolOp,
               ast.Compare, ast.IfExp, ast.Call, ast.Attribute, ast.Subscript, ast.Slice, ast.ListComp, ast.JoinedStr,
               ast.FormattedValue, ast.Lambda)


def faults_of_text(text):
    for number, row in enumerate(text.split("\n"), 1):
        if len(row) > 120 or row != row.rstrip():
            yield number, "L10 row"
        if any(not " " <= sign <= "~" for sign in row):
            yield number, "L14 sign"
        if FORBIDDEN_WORDS.search(row):
            yield number, "L17 word"
    if text.count("\n") > 400:
        yield 0, "L10 file"


def faults_of_top(tree):
    bound = []
    for node in tree.body:
        if isinstance(node, ast.ImportFrom):
            if node.level or not (node.module.startswith("strandwright.") or node.module == "__future__"):
                yield node.lineno, "L2 import"
            if any(alias.name == "*" or alias.asname for alias in node.names):
                yield node.lineno, "L2 import"
            bound += [alias.name for alias in node.names]
        elif isinstance(node, (ast.FunctionDef, ast.ClassDef)):
            bound.append(node.name)
        elif isinstance(node, ast.Assign) and isinstance(node.targets[0], ast.Name):
            bound.append(node.targets[0].id)
        elif not (isinstance(node, ast.Expr) and isinstance(node.value, ast.Constant)):
            yield node.lineno, "L3 top"
    if len(bound) != len(set(bound)):
        yield 0, "L15 bound twice"


def faults_of_def(node, taken):
    if node.end_lineno - node.lineno + 1 > 40:
        yield node.lineno, "L10 def"
    given = node.args
    if node.decorator_list or given.vararg or given.kwarg or given.kwonlyargs or given.posonlyargs:
        yield node.lineno, "L4 def"
    if node.returns or any(arg.annotation for arg in given.args):
        yield node.lineno, "L21 annotation"
    local = [arg.arg for arg in given.args]
    local += [name.id for name in ast.walk(node) if isinstance(name, ast.Name) and isinstance(name.ctx, ast.Store)]
    for name in local:
        if name in taken or hasattr(builtins, name):
            yield node.lineno, "L15 local " + name
    for inner in ast.walk(node):
        if isinstance(inner, ast.stmt) and not isinstance(inner, STATEMENTS):
            yield inner.lineno, "L6 statement"
        if isinstance(inner, (ast.For, ast.While)) and inner.orelse:
            yield inner.lineno, "L6 else behind a loop"
        if isinstance(inner, ast.Expr) and not isinstance(inner.value, ast.Call):
            yield inner.lineno, "L6 expression by itself"
        if isinstance(inner, ast.Assign) and len(inner.targets) != 1:
            yield inner.lineno, "L6 targets"
        if isinstance(inner, ast.Try) and inner.finalbody:
            yield inner.lineno, "L6 finally"


def faults_of_class(node):
    if node.decorator_list or node.keywords or len(node.bases) > 1:
        yield node.lineno, "L5 class"
    for part in node.body:
        if not isinstance(part, (ast.FunctionDef, ast.Pass)):
            yield part.lineno, "L5 body"


def faults_of_names(node):
    name = getattr(node, "id", None) or getattr(node, "attr", None) or getattr(node, "arg", None)
    if isinstance(node, (ast.FunctionDef, ast.ClassDef)):
        name = node.name
    if not isinstance(name, str):
        return
    if name in FORBIDDEN_NAMES:
        yield node.lineno, "L17 name " + name
    if not re.fullmatch("[A-Za-z][A-Za-z0-9_]*", name) and name not in DUNDERS:
        yield node.lineno, "L12 name " + name
    if isinstance(node, ast.Name) and hasattr(builtins, name) and name not in OWN_NAMES:
        yield node.lineno, "L8 name " + name


def faults_of_expression(node, own_methods):
    if isinstance(node, ast.expr) and not isinstance(node, EXPRESSIONS):
        yield node.lineno, "L7 expression"
    if isinstance(node, ast.Constant) and not (node.value is None or isinstance(node.value, (bool, int, str))):
        yield node.lineno, "L7 value"
    if isinstance(node, ast.Constant) and isinstance(node.value, str) and "%" in node.value:
        yield node.lineno, "L27 sign"
    if isinstance(node, ast.BinOp) and isinstance(node.op, (ast.Div, ast.MatMult)):
        yield node.lineno, "L7 division"
    if isinstance(node, (ast.BinOp, ast.AugAssign)) and isinstance(node.op, ast.Pow):
        written = node.right if isinstance(node, ast.BinOp) else node.value
        if not isinstance(written, ast.Constant) or written.value not in range(65):
            yield node.lineno, "L27 exponent"
    if isinstance(node, ast.ListComp) and (len(node.generators) > 1 or len(node.generators[0].ifs) > 1):
        yield node.lineno, "L7 comprehension"
    if isinstance(node, ast.FormattedValue) and (not isinstance(node.value, ast.Name) or node.format_spec):
        yield node.lineno, "L7 f-string"
    if isinstance(node, ast.Compare) and any(isinstance(op, (ast.Is, ast.IsNot)) for op in node.ops):
        if not isinstance(node.comparators[-1], ast.Constant):
            yield node.lineno, "L20 is"
    if isinstance(node, ast.Call) and isinstance(node.func, ast.Attribute):
        if node.func.attr not in METHODS | own_methods | DUNDERS:
            yield node.lineno, "L25 method " + node.func.attr
    if isinstance(node, ast.ExceptHandler) and getattr(node.type, "id", None) in (None, "Exception", "TypeError"):
        yield node.lineno, "L19 except"


def faults_of_sets(tree):
    fine = set()
    for node in ast.walk(tree):
        if isinstance(node, ast.Compare):
            fine.update([node.left, *node.comparators])
        if isinstance(node, ast.Call) and isinstance(node.func, ast.Name) and node.func.id in ("sorted", "len"):
            fine.update(node.args)
    for node in ast.walk(tree):
        made = isinstance(node, ast.Call) and isinstance(node.func, ast.Name) and node.func.id in ("set", "frozenset")
        if (made or isinstance(node, ast.Set)) and node not in fine:
            yield node.lineno, "L24 set"


def faults_of(path):
    text = path.read_text("utf-8")
    tree = ast.parse(text)
    yield from faults_of_text(text)
    yield from faults_of_top(tree)
    taken = {alias.name for node in ast.walk(tree) if isinstance(node, ast.ImportFrom) for alias in node.names}
    taken |= {node.name for node in tree.body if isinstance(node, ast.ClassDef)}
    own_methods = {part.name for node in ast.walk(tree) if isinstance(node, ast.ClassDef) for part in node.body
                   if isinstance(part, ast.FunctionDef)}
    for node in ast.walk(tree):
        yield from faults_of_names(node)
        yield from faults_of_expression(node, own_methods)
        if isinstance(node, ast.FunctionDef):
            yield from faults_of_def(node, taken)
        if isinstance(node, ast.ClassDef):
            yield from faults_of_class(node)
    yield from faults_of_sets(tree)


def drawn_from(path):
    drawn = {}
    for node in ast.walk(ast.parse(path.read_text("utf-8"))):
        if isinstance(node, ast.ImportFrom):
            drawn.setdefault(node.module.split(".")[-1], []).extend(alias.name for alias in node.names)
    return drawn


class Language(unittest.TestCase):
    def test_only_files_of_the_language_lie_in_the_package(self):
        for path in PACKAGE.iterdir():
            if path.name != "__pycache__":
                self.assertRegex(path.name, r"^([a-z][a-z0-9_]*|__init__|__main__)\.py$")

    def test_each_file_keeps_to_the_rules(self):
        for path in sorted(PACKAGE.glob("*.py")):
            self.assertEqual(sorted(set(faults_of(path))), [], path.name)

    def test_no_name_is_a_method_and_a_value(self):
        trees = [ast.parse(path.read_text("utf-8")) for path in PACKAGE.glob("*.py")]
        classes = [node for tree in trees for node in tree.body if isinstance(node, ast.ClassDef)]
        methods = {part.name for node in classes for part in node.body if isinstance(part, ast.FunctionDef)}
        values = {node.attr for some in classes for node in ast.walk(some)
                  if isinstance(node, ast.Attribute) and isinstance(node.ctx, ast.Store)}
        self.assertTrue(methods and values)
        self.assertEqual(methods & values, set())

    def test_no_two_files_draw_from_one_another(self):
        draws = {path.stem: set(drawn_from(path)) for path in PACKAGE.glob("*.py")}
        while draws:
            free = [name for name in draws if not draws[name] & set(draws)]
            self.assertTrue(free, sorted(draws))
            for name in free:
                draws.pop(name)

    def test_names_are_drawn_from_the_file_that_defines_them_and_used(self):
        for path in PACKAGE.glob("*.py"):
            used = {node.id for node in ast.walk(ast.parse(path.read_text("utf-8"))) if isinstance(node, ast.Name)}
            for source, names in drawn_from(path).items():
                tree = ast.parse((PACKAGE / (source + ".py")).read_text("utf-8"))
                defined = {node.name for node in tree.body if isinstance(node, (ast.FunctionDef, ast.ClassDef))}
                defined |= {node.targets[0].id for node in tree.body if isinstance(node, ast.Assign)}
                self.assertLessEqual(set(names), defined, path.name)
                self.assertLessEqual(set(names), used, path.name)


if __name__ == "__main__":
    unittest.main()
