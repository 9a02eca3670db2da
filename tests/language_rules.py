"""Finds where the package's files leave the part of Python that LANGUAGE.md allows.

Where a rule is long and the program does without the thing, the check is narrower than
the rule: no sets, no annotations, no lists at a file's top, no docstring but a file's own,
no method with two underscores but __init__.
"""

import ast
import builtins
import io
import re
import tokenize

PACKAGE = "swornhall"
CALLED = (
    "len range enumerate zip min max sum abs sorted reversed int str bool list tuple dict "
    "isinstance ord repr any all divmod").split()
KINDS = "int str bool list tuple dict".split()
PYTHON_ERRORS = (
    "Exception ValueError TypeError KeyError IndexError LookupError ZeroDivisionError ArithmeticError "
    "OverflowError RuntimeError NotImplementedError AttributeError StopIteration").split()
METHODS = (
    "append clear copy count endswith extend find get index insert isalnum isalpha isdigit islower isspace "
    "isupper items join keys ljust lower lstrip partition pop remove replace reverse rfind rjust rpartition "
    "rsplit rstrip setdefault split splitlines startswith strip update upper values zfill bit_length").split()
CHANGING = "append clear extend insert pop remove reverse setdefault update".split()
WALKED = "zip enumerate reversed range".split()
WALKERS = "list tuple dict sorted sum any all enumerate zip min max".split()
KEYWORDS = {
    "sorted": ("key", "reverse"), "min": ("key", "default"), "max": ("key", "default"),
    "sum": ("start",), "enumerate": ("start",), "zip": ("strict",)}
KEYS = "len int str abs sum min max tuple".split()
BANNED_NAMES = (
    "register mro elements open input version_info with_traceback add_note attrgetter breakpoint builtins compile "
    "copyright credits delattr dir eval exec exit gc getattr globals hasattr help id importlib license locals "
    "methodcaller os quit setattr super vars sys chr print set frozenset").split()
BANNED_ANYWHERE = "register mro elements open input version_info with_traceback add_note format format_map".split()
BANNED_WORDS = re.compile(
    r"\b(type|typing|typing_extensions|enum|Enum|IntEnum|StrEnum|Flag|IntFlag|Generic|Protocol|ABC|ABCMeta|"
    r"namedtuple|NamedTuple|TypedDict|TYPE_CHECKING|abstractmethod)\b|dataclass|overload|contextmanager")
BANNED_FILES = "test tests testing site conftest sitecustomize usercustomize".split()
VALUE_NAMES = "count index title find get join lower upper split strip copy add".split()
PLAIN_NAME = re.compile(r"[A-Za-z][A-Za-z0-9_]*\Z")
FILE_NAME = re.compile(r"([a-z][a-z0-9_]*|__init__)\.py\Z")

STATEMENTS = (
    ast.Assign, ast.AugAssign, ast.If, ast.While, ast.For, ast.Return, ast.Break, ast.Continue, ast.Pass, ast.Raise,
    ast.Try, ast.Expr, ast.FunctionDef, ast.ClassDef, ast.ImportFrom)
EXPRESSIONS = (
    ast.BoolOp, ast.BinOp, ast.UnaryOp, ast.Lambda, ast.IfExp, ast.Dict, ast.ListComp, ast.Compare, ast.Call,
    ast.JoinedStr, ast.FormattedValue, ast.Constant, ast.Attribute, ast.Subscript, ast.Name, ast.List, ast.Tuple,
    ast.Slice)
OWN_NAMES = set()
for kind in (str, int, list, dict, set, bytes, tuple):
    OWN_NAMES.update(dir(kind))


class Checker:
    """Walks one file; what it finds are tuples (file, line, rule)."""

    def __init__(self, name, text, others):
        self.name = name
        self.text = text
        self.others = others
        self.found = []
        self.tree = ast.parse(text)
        self.parents = {}
        for node in ast.walk(self.tree):
            for child in ast.iter_child_nodes(node):
                self.parents[child] = node
        self.top = top_names(self.tree)
        self.bound = bound_names(self.tree)
        self.class_names = set()
        for tree in others.values():
            self.class_names.update(node.name for node in ast.walk(tree) if isinstance(node, ast.ClassDef))
        self.methods = set()
        for tree in others.values():
            self.methods.update(method.name for method in methods_of(tree))

    def blame(self, rule, node=None, line=1):
        self.found.append((self.name, line if node is None else node.lineno, rule))

    def check(self):
        self.check_text()
        self.check_tokens()
        self.check_top()
        for node in ast.walk(self.tree):
            if isinstance(node, ast.stmt):
                self.check_statement(node)
            if isinstance(node, ast.expr):
                self.check_expression(node)
        return sorted(set(self.found))

    def check_text(self):
        stem = self.name[:-3]
        if not FILE_NAME.match(self.name):
            self.blame("L1")
        if stem in BANNED_FILES or stem.startswith("test_") or stem in dir(builtins) or BANNED_WORDS.search(stem):
            self.blame("L14")
        rows = self.text.split("\n")
        if len(rows) > 401:
            self.blame("L10", line=401)
        for line, row in enumerate(rows, start=1):
            if len(row) > 120 or "\t" in row:
                self.blame("L10", line=line)
            if any(not " " <= sign <= "~" for sign in row):
                self.blame("L14", line=line)
            if BANNED_WORDS.search(row):
                self.blame("L17", line=line)

    def check_tokens(self):
        for token in tokenize.generate_tokens(io.StringIO(self.text).readline):
            if token.type == tokenize.STRING:
                if "%" in token.string or re.search(r"\\[^nt'\"]", token.string.replace("\\\\", "")):
                    self.blame("L27", line=token.start[0])
            if token.type == tokenize.NUMBER and len(token.string) > 900:
                self.blame("L27", line=token.start[0])

    def check_top(self):
        for position, node in enumerate(self.tree.body):
            if position == 0 and is_text(node):
                continue
            if isinstance(node, ast.Assign):
                if not is_plain(node.value, self.top) or isinstance(node.value, ast.List):
                    self.blame("L3", node)
            elif not isinstance(node, (ast.ImportFrom, ast.FunctionDef, ast.ClassDef)):
                self.blame("L3", node)
        for name in set(self.top):
            if self.top.count(name) > 1:
                self.blame("L15")

    def check_statement(self, node):
        if not isinstance(node, STATEMENTS):
            self.blame("L2" if isinstance(node, ast.Import) else "L6", node)
        if isinstance(node, ast.Expr) and not isinstance(node.value, ast.Call) and node is not self.tree.body[0]:
            self.blame("L6", node)
        if isinstance(node, (ast.For, ast.While)) and node.orelse:
            self.blame("L6", node)
        if isinstance(node, ast.Assign) and len(node.targets) != 1:
            self.blame("L6", node)
        checks = {
            ast.FunctionDef: self.check_def, ast.ClassDef: self.check_class, ast.ImportFrom: self.check_import,
            ast.Try: self.check_try, ast.Raise: self.check_raise, ast.For: self.check_for}
        if type(node) in checks:
            checks[type(node)](node)

    def check_def(self, node):
        given = node.args
        if given.vararg or given.kwarg or given.kwonlyargs or given.posonlyargs or node.decorator_list:
            self.blame("L4", node)
        if any(not is_plain(value, []) or isinstance(value, (ast.List, ast.Dict)) for value in given.defaults):
            self.blame("L4", node)
        if node.returns or any(arg.annotation for arg in given.args):
            self.blame("L21", node)
        if node.end_lineno - node.lineno + 1 > 40:
            self.blame("L10", node)
        if not PLAIN_NAME.match(node.name) and node.name != "__init__":
            self.blame("L28" if node.name.startswith("__") else "L12", node)
        for arg in given.args:
            self.check_bound(arg.arg, node)
        if node.name == "__init__":
            if any(isinstance(inner, ast.Return) and inner.value for inner in ast.walk(node)):
                self.blame("L28", node)
        if not isinstance(self.parents[node], ast.ClassDef):
            if node.name in dir(builtins):
                self.blame("L8", node)
        elif node.name in OWN_NAMES and node.name not in METHODS + ["__init__", "add", "discard"]:
            self.blame("L26", node)

    def check_bound(self, name, node):
        imported = [alias.name for row in ast.walk(self.tree) if isinstance(row, ast.ImportFrom) for alias in row.names]
        if not PLAIN_NAME.match(name):
            self.blame("L12", node)
        if name in dir(builtins) or name in imported or name in self.class_names:
            self.blame("L15", node)

    def check_class(self, node):
        if not isinstance(self.parents[node], ast.Module):
            self.blame("L15", node)
        if len(node.bases) > 1 or node.keywords or node.decorator_list:
            self.blame("L5", node)
        if any(not isinstance(inner, (ast.FunctionDef, ast.Pass)) for inner in node.body):
            self.blame("L5", node)
        for base in node.bases:
            named = isinstance(base, ast.Name) and base.id not in ("StopIteration", "AttributeError")
            if not named or base.id not in PYTHON_ERRORS and base.id not in self.class_names:
                self.blame("L18", node)
        names = [inner.name for inner in node.body if isinstance(inner, ast.FunctionDef)]
        if len(names) != len(set(names)):
            self.blame("L18", node)
        if not PLAIN_NAME.match(node.name):
            self.blame("L12", node)

    def check_import(self, node):
        if not isinstance(self.parents[node], ast.Module):
            self.blame("L2", node)
        parts = (node.module or "").split(".")
        source = f"{parts[-1]}.py"
        star = any(alias.name == "*" for alias in node.names)
        if node.level or star or len(parts) != 2 or parts[0] != PACKAGE or source not in self.others:
            self.blame("L2", node)
            return
        defined = [
            name for row in self.others[source].body if not isinstance(row, ast.ImportFrom)
            for name in names_of_row(row)]
        if any(alias.asname or alias.name not in defined for alias in node.names):
            self.blame("L16", node)
        if self.name == "__init__.py":
            self.blame("L16", node)

    def check_try(self, node):
        if node.finalbody:
            self.blame("L6", node)
        for handler in node.handlers:
            taken = handler.type.elts if isinstance(handler.type, ast.Tuple) else [handler.type]
            for error in taken:
                own = isinstance(error, ast.Name) and error.id in self.class_names
                allowed = ("KeyError", "ZeroDivisionError", "StopIteration", "IndexError", "ValueError", "LookupError")
                if not own and not (isinstance(error, ast.Name) and error.id in allowed):
                    self.blame("L19", handler)
                elif not own and error.id in allowed[3:] and has_call_of_own(node.body, self.bound):
                    self.blame("L19", handler)

    def check_raise(self, node):
        if not isinstance(node.exc, ast.Call):
            self.blame("L19", node)

    def check_for(self, node):
        walked = node.iter
        if isinstance(walked, ast.Call) and isinstance(walked.func, ast.Attribute):
            walked = walked.func.value
        names = [ast.dump(walked)]
        if isinstance(walked, ast.Call):
            lazy = isinstance(walked.func, ast.Name) and walked.func.id in ("enumerate", "zip", "reversed")
            names = [ast.dump(part) for part in walked.args] if lazy else []
        for inner in [part for row in node.body for part in ast.walk(row)]:
            changed = None
            if isinstance(inner, ast.Subscript) and not isinstance(inner.ctx, ast.Load):
                changed = inner.value
            if isinstance(inner, ast.Attribute) and inner.attr in CHANGING:
                changed = inner.value
            if changed is not None and ast.dump(changed) in names:
                self.blame("L23", inner)

    def check_expression(self, node):
        if not isinstance(node, EXPRESSIONS):
            self.blame("L24" if isinstance(node, ast.Set) else "L7", node)
        checks = {
            ast.Name: self.check_name, ast.Attribute: self.check_attribute, ast.Call: self.check_call,
            ast.Compare: self.check_compare, ast.BinOp: self.check_operator, ast.Constant: self.check_constant,
            ast.ListComp: self.check_comprehension, ast.FormattedValue: self.check_hole, ast.Lambda: self.check_lambda}
        if type(node) in checks:
            checks[type(node)](node)

    def check_name(self, node):
        if node.id in BANNED_NAMES:
            self.blame("L17", node)
        parent = self.parents[node]
        if not isinstance(node.ctx, ast.Load):
            self.check_bound(node.id, node)
        elif node.id in CALLED:
            self.check_builtin(node, parent)
        elif node.id not in self.bound and node.id not in PYTHON_ERRORS:
            self.blame("L8", node)
        elif node.id in self.class_names and not class_may_stand(node, parent, self.parents):
            self.blame("L18", node)
        if isinstance(node.ctx, ast.Load) and node.id in self.top_dicts():
            self.check_top_dict(node, parent)

    def top_dicts(self):
        return [
            row.targets[0].id for row in self.tree.body
            if isinstance(row, ast.Assign) and isinstance(row.value, ast.Dict)]

    def check_top_dict(self, node, parent):
        if isinstance(parent, ast.Subscript) and isinstance(parent.ctx, ast.Load):
            return
        if isinstance(parent, ast.Attribute) and parent.attr in ("get", "items", "keys", "values"):
            return
        if isinstance(parent, ast.Call) and any(is_call_of(parent, name) for name in ("len", "list", "dict", "sorted")):
            return
        if not isinstance(parent, (ast.Compare, ast.For, ast.comprehension)):
            self.blame("L15", node)

    def check_builtin(self, node, parent):
        if isinstance(parent, ast.Call) and parent.func is node:
            return
        if isinstance(parent, ast.keyword) and parent.arg == "key" and node.id in KEYS:
            return
        call = self.parents[parent] if isinstance(parent, ast.Tuple) else parent
        if not (isinstance(call, ast.Call) and is_call_of(call, "isinstance") and node.id in KINDS):
            self.blame("L22", node)

    def check_attribute(self, node):
        if not PLAIN_NAME.match(node.attr) and node.attr != "__init__":
            self.blame("L12", node)
        if node.attr in BANNED_ANYWHERE:
            self.blame("L17", node)
        parent = self.parents[node]
        if not isinstance(node.ctx, ast.Load):
            if node.attr in OWN_NAMES and node.attr not in VALUE_NAMES:
                self.blame("L26", node)
            if not isinstance(node.value, ast.Name) or node.value.id in self.top:
                self.blame("L18", node)
        elif isinstance(parent, ast.Call) and parent.func is node:
            if node.attr not in METHODS and node.attr not in self.methods:
                self.blame("L25", node)

    def check_call(self, node):
        allowed = None
        if isinstance(node.func, ast.Name) and node.func.id not in self.bound:
            allowed = KEYWORDS.get(node.func.id, ())
        if isinstance(node.func, ast.Attribute) and node.func.attr in METHODS:
            allowed = ()
        if allowed is not None and any(word.arg not in allowed for word in node.keywords):
            self.blame("L22", node)
        lazy = isinstance(node.func, ast.Name) and node.func.id in WALKED
        if isinstance(node.func, ast.Attribute) and node.func.attr in ("items", "keys", "values"):
            lazy = True
        if lazy and not self.walked_at_once(node):
            self.blame("L23", node)

    def walked_at_once(self, node):
        parent = self.parents[node]
        if isinstance(parent, (ast.For, ast.comprehension)):
            return parent.iter is node
        if not isinstance(parent, ast.Call) or node not in parent.args:
            return False
        if isinstance(parent.func, ast.Name):
            first = parent.args[0] is node or parent.func.id == "zip"
            return first and parent.func.id in WALKERS
        return isinstance(parent.func, ast.Attribute) and parent.func.attr == "join"

    def check_compare(self, node):
        sides = [node.left] + node.comparators
        for operator, left, right in zip(node.ops, sides, sides[1:]):
            plain = [is_singleton(left), is_singleton(right)]
            if isinstance(operator, (ast.Is, ast.IsNot)) and not any(plain):
                self.blame("L20", node)

    def check_operator(self, node):
        if isinstance(node.op, (ast.Div, ast.MatMult)):
            self.blame("L7", node)
        if isinstance(node.op, ast.Pow):
            written = isinstance(node.right, ast.Constant) and isinstance(node.right.value, int)
            if not written or not 0 <= node.right.value <= 64:
                self.blame("L27", node)

    def check_constant(self, node):
        if node.value is not None and not isinstance(node.value, (int, str)):
            self.blame("L7", node)

    def check_comprehension(self, node):
        if len(node.generators) != 1 or len(node.generators[0].ifs) > 1:
            self.blame("L7", node)

    def check_hole(self, node):
        if not isinstance(node.value, ast.Name) or node.conversion not in (-1, 114) or node.format_spec:
            self.blame("L7", node)

    def check_lambda(self, node):
        others = [other for other in ast.walk(self.tree) if isinstance(other, ast.Lambda) and other is not node]
        if any(other.lineno == node.lineno for other in others):
            self.blame("L13", node)


def is_text(node):
    return isinstance(node, ast.Expr) and isinstance(node.value, ast.Constant) and isinstance(node.value.value, str)


def is_singleton(node):
    return isinstance(node, ast.Constant) and any(node.value is value for value in (None, True, False))


def is_call_of(node, name):
    return isinstance(node.func, ast.Name) and node.func.id == name


def is_plain(node, names):
    if isinstance(node, ast.Constant):
        return True
    if isinstance(node, ast.UnaryOp) and isinstance(node.op, ast.USub):
        return isinstance(node.operand, ast.Constant)
    if isinstance(node, (ast.Tuple, ast.List)):
        return all(is_plain(part, names) for part in node.elts)
    if isinstance(node, ast.Dict):
        inner = [isinstance(part, (ast.List, ast.Dict)) for part in node.values]
        return not any(inner) and all(is_plain(part, names) for part in node.keys + node.values)
    return isinstance(node, ast.Name) and node.id in names


def names_of_row(row):
    if isinstance(row, (ast.FunctionDef, ast.ClassDef)):
        return [row.name]
    if isinstance(row, ast.ImportFrom):
        return [alias.asname or alias.name for alias in row.names]
    if isinstance(row, ast.Assign):
        return [node.id for target in row.targets for node in ast.walk(target) if isinstance(node, ast.Name)]
    return []


def top_names(tree):
    return [name for row in tree.body for name in names_of_row(row)]


def bound_names(tree):
    names = set(top_names(tree))
    for node in ast.walk(tree):
        if isinstance(node, ast.arg):
            names.add(node.arg)
        if isinstance(node, ast.Name) and not isinstance(node.ctx, ast.Load):
            names.add(node.id)
        if isinstance(node, ast.ExceptHandler) and node.name:
            names.add(node.name)
        if isinstance(node, ast.FunctionDef):
            names.add(node.name)
    return names


def methods_of(tree):
    rows = [row for row in tree.body if isinstance(row, ast.ClassDef)]
    return [method for row in rows for method in row.body if isinstance(method, ast.FunctionDef)]


def values_of(tree):
    nodes = [node for node in ast.walk(tree) if isinstance(node, ast.Attribute)]
    return {node.attr for node in nodes if not isinstance(node.ctx, ast.Load)}


def has_call_of_own(body, bound):
    calls = [node for row in body for node in ast.walk(row) if isinstance(node, ast.Call)]
    return any(isinstance(call.func, ast.Name) and call.func.id in bound for call in calls)


def class_may_stand(node, parent, parents):
    if isinstance(parent, ast.Call) and parent.func is node:
        return True
    if isinstance(parent, (ast.ClassDef, ast.ExceptHandler)):
        return True
    if isinstance(parent, ast.Attribute) and parent.attr == "__init__":
        return True
    outer = parents[parent] if isinstance(parent, ast.Tuple) else parent
    return isinstance(outer, ast.ExceptHandler) or isinstance(outer, ast.Call) and is_call_of(outer, "isinstance")


def draws(tree):
    return [f"{row.module.split('.')[-1]}.py" for row in tree.body if isinstance(row, ast.ImportFrom) and row.module]


def drawn_in_rings(trees):
    rings = []
    for name in trees:
        seen, waiting = set(), list(draws(trees[name]))
        while waiting:
            other = waiting.pop()
            if other in trees and other not in seen:
                seen.add(other)
                waiting.extend(draws(trees[other]))
        if name in seen:
            rings.append(name)
    return rings


def faults(files):
    """The faults of a package, a dict of texts by file name."""
    trees = {name: ast.parse(text) for name, text in files.items()}
    found = []
    for name, text in files.items():
        found.extend(Checker(name, text, trees).check())
    found.extend((name, 1, "L16") for name in drawn_in_rings(trees))
    methods, values = set(), set()
    for tree in trees.values():
        methods.update(method.name for method in methods_of(tree))
        values.update(values_of(tree))
    found.extend((name, 1, "L18") for name in sorted(methods & values))
    if "__init__.py" not in files:
        found.append(("__init__.py", 1, "L14"))
    return found
