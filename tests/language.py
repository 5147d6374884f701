"""The rules of the language, as far as a look at the files can see them.

The package uses a small part of what the rules let: no `try`, no sets, no lambdas, no generators, no
f-strings. What it does not use is told here as a breach of the rule that speaks of it; a later part of
the program that needs more of the language has to widen the rule here.
"""

import ast
import builtins
import io
import re
import tokenize

PACKAGE = "wholesound"
MATH = {"gcd", "lcm", "isqrt", "comb", "perm", "factorial"}
LIBRARY = {"math": MATH, "heapq": {"heappush", "heappop", "heapify", "heapreplace", "heappushpop"},
           "itertools": {"product", "combinations", "permutations"}}
CALLED = {"len", "range", "enumerate", "zip", "min", "max", "sum", "abs", "sorted", "reversed", "int", "str", "bool",
          "list", "tuple", "dict", "isinstance", "ord", "repr", "any", "all", "divmod"}
CHECKED_KINDS = {"int", "str", "bool", "list", "tuple", "dict"}
ERROR_BASES = {"ValueError", "Exception"}
KEYWORDS = {"sorted": {"key", "reverse"}, "min": {"key", "default"}, "max": {"key", "default"}, "sum": {"start"},
            "enumerate": {"start"}, "zip": {"strict"}}
METHODS = set("""append clear copy count endswith extend find get index insert isalnum isalpha isdigit islower isspace
isupper items join keys ljust lower lstrip partition pop remove replace reverse rfind rjust rpartition rsplit rstrip
setdefault split splitlines startswith strip update upper values zfill bit_length""".split())
SPECIAL = {"__init__", "__eq__"}
NOWHERE = {"register", "mro", "elements", "open", "input", "law", "version_info", "with_traceback", "add_note"}
NOT_NAMES = set("""attrgetter breakpoint builtins compile copyright credits delattr dir eval exec exit gc getattr globals
hasattr help id importlib license locals methodcaller os quit setattr super type vars sys __name__""".split())
WORDS = """type typing typing_extensions enum Enum IntEnum StrEnum Flag IntFlag Generic Protocol ABC ABCMeta namedtuple
NamedTuple TypedDict TYPE_CHECKING abstractmethod""".split()
BEGINNINGS = ("_wall", "_pe_", "_dcw_", "_enum_", "_cm_", "_twin_re_", "_lay_", "_law_", "_stub_", "_sre", "_WallAttr")
STATEMENTS = (ast.Assign, ast.AugAssign, ast.If, ast.While, ast.For, ast.Return, ast.Break, ast.Continue, ast.Pass,
              ast.Raise, ast.Expr)
EXPRESSIONS = (ast.BoolOp, ast.BinOp, ast.UnaryOp, ast.IfExp, ast.Compare, ast.Call, ast.Constant, ast.Attribute,
               ast.Subscript, ast.Name, ast.List, ast.Tuple, ast.Dict, ast.ListComp, ast.DictComp, ast.Slice)
AT_ONCE = {"list", "tuple", "dict", "sorted", "sum", "any", "all", "enumerate", "zip"}
BUILTINS = set(dir(builtins))


class Look:
    """A look through the files of a package: a dict from the files' names to their texts."""

    def __init__(self, files):
        self.files = files
        self.trees = {}
        self.found = []
        self.own_methods = set()
        self.properties = set()
        self.classes = set()

    def breach(self, rule, name, line):
        self.found.append(f"{rule} {name}:{line}")

    def all(self):
        for name, text in self.files.items():
            self.characters(name, text)
            self.trees[name] = ast.parse(text)
        for tree in self.trees.values():
            for node in ast.walk(tree):
                if isinstance(node, ast.ClassDef):
                    self.classes.add(node.name)
                    for one in node.body:
                        if isinstance(one, ast.FunctionDef):
                            (self.properties if one.decorator_list else self.own_methods).add(one.name)
        for one in self.properties & (self.own_methods | METHODS):
            self.breach("L5", one, 0)
        for name, tree in self.trees.items():
            self.module(name, tree)
            self.names(name, tree)
            self.functions(name, tree)
            self.nodes(name, tree)
        self.circles()
        return self.found

    def characters(self, name, text):
        if not re.fullmatch(r"[a-z0-9_]+\.py", name) or re.match(r"(law_|test)|(tests|testing|site|conftest)\.py", name):
            self.breach("L14", name, 0)
        if name[:-3] in BUILTINS | NOT_NAMES | NOWHERE | {"heapq", "math", "itertools"}:
            self.breach("L14", name, 0)
        lines = text.split("\n")
        if len(lines) - 1 > 399:
            self.breach("L10", name, 399)
        for at, line in enumerate(lines, 1):
            if len(line) > 120:
                self.breach("L10", name, at)
            if any(not " " <= sign <= "~" for sign in line):
                self.breach("L14", name, at)
            if re.search(r"_wall\b|_WallAttr", line):
                self.breach("L12", name, at)
        for token in tokenize.generate_tokens(io.StringIO(text).readline):
            if token.type == tokenize.STRING:
                self.string(name, token)

    def string(self, name, token):
        line, text = token.start[0], token.string
        if not text.startswith(('"', "'")):
            self.breach("L27", name, line)
        if "%" in text or re.search(r"\\[^nt\\\"']", text) or text.rstrip("\"'").endswith(("._", ".__")):
            self.breach("L27", name, line)
        if not text.startswith('"""') and any(re.search(rf"\b{word}\b", text) for word in WORDS):
            self.breach("L17", name, line)

    def module(self, name, tree):
        bound = []
        for at, node in enumerate(tree.body):
            if isinstance(node, ast.Expr) and at == 0 and isinstance(node.value, ast.Constant):
                continue
            if isinstance(node, ast.ImportFrom):
                self.imports(name, tree.body[:at], node)
                bound += [alias.name for alias in node.names]
            elif isinstance(node, (ast.FunctionDef, ast.ClassDef)):
                bound.append(node.name)
            elif isinstance(node, ast.Assign) and len(node.targets) == 1 and isinstance(node.targets[0], ast.Name):
                bound.append(node.targets[0].id)
                self.plain_value(name, node.value)
            else:
                self.breach("L2" if isinstance(node, ast.Import) else "L3", name, node.lineno)
        for one in {one for one in bound if bound.count(one) > 1}:
            self.breach("L15", name, one)

    def plain_value(self, name, node):
        for one in ast.walk(node):
            if not isinstance(one, (ast.Constant, ast.Tuple, ast.List, ast.Dict, ast.UnaryOp, ast.USub, ast.Load)):
                self.breach("L3", name, node.lineno)

    def imports(self, name, ahead, node):
        for one in ahead:
            if not isinstance(one, ast.ImportFrom) and not isinstance(one, ast.Expr):
                self.breach("L2", name, node.lineno)
        if node.level or any(alias.asname or alias.name == "*" for alias in node.names):
            self.breach("L2", name, node.lineno)
        elif node.module in LIBRARY:
            if any(alias.name not in LIBRARY[node.module] for alias in node.names):
                self.breach("L2", name, node.lineno)
        elif not node.module.startswith(PACKAGE + "."):
            self.breach("L2", name, node.lineno)
        else:
            self.defined_there(name, node)

    def defined_there(self, name, node):
        tree = self.trees.get(node.module[len(PACKAGE) + 1:] + ".py")
        there = set()
        for one in tree.body if tree else []:
            if isinstance(one, (ast.FunctionDef, ast.ClassDef)):
                there.add(one.name)
            if isinstance(one, ast.Assign):
                there.add(one.targets[0].id)
        if any(alias.name not in there for alias in node.names):
            self.breach("L16", name, node.lineno)

    def circles(self):
        after = {}
        for name, tree in self.trees.items():
            nodes = [node for node in tree.body if isinstance(node, ast.ImportFrom) and node.module]
            after[name] = {f"{node.module.split('.')[-1]}.py" for node in nodes if node.module.startswith(PACKAGE)}
        for name in after:
            reached, now = set(), {name}
            while now:
                now = {more for one in now for more in after.get(one, ())} - reached
                reached |= now
            if name in reached:
                self.breach("L16", name, 0)

    def names(self, name, tree):
        barred = {alias.name for node in tree.body if isinstance(node, ast.ImportFrom) for alias in node.names}
        barred |= {node.name for node in tree.body if isinstance(node, ast.ClassDef)}
        for node in ast.walk(tree):
            found = self.bound_here(node)
            for one in found:
                if not re.fullmatch(r"_|_?[A-Za-z][A-Za-z0-9_]*", one) or one.startswith(BEGINNINGS):
                    self.breach("L12", name, node.lineno)
                if one in BUILTINS or (one in barred and not isinstance(node, ast.ClassDef)):
                    self.breach("L15", name, node.lineno)
                if one in NOWHERE | NOT_NAMES:
                    self.breach("L17", name, node.lineno)
            if isinstance(node, ast.Name) and node.id == "_" and isinstance(node.ctx, ast.Load):
                self.breach("L12", name, node.lineno)
            if isinstance(node, ast.Name) and re.fullmatch(r"__.*", node.id):
                self.breach("L8", name, node.lineno)
            if isinstance(node, ast.Attribute):
                self.attribute(name, node)

    def bound_here(self, node):
        """The names of variables, parameters, functions and classes that a node binds, but no methods' special ones."""
        if isinstance(node, ast.arg):
            return [node.arg]
        if isinstance(node, ast.Name) and not isinstance(node.ctx, ast.Load):
            return [node.id]
        if isinstance(node, (ast.FunctionDef, ast.ClassDef)) and node.name not in SPECIAL:
            return [node.name]
        return []

    def attribute(self, name, node):
        if node.attr.startswith("__") or not re.fullmatch(r"_?[A-Za-z][A-Za-z0-9_]*", node.attr):
            self.breach("L8", name, node.lineno)
        if node.attr in NOWHERE | {"format", "format_map"}:
            self.breach("L17", name, node.lineno)
        if isinstance(node.ctx, ast.Store) and not isinstance(node.value, ast.Name):
            self.breach("L18", name, node.lineno)

    def functions(self, name, tree):
        methods = set()
        for node in ast.walk(tree):
            if isinstance(node, ast.ClassDef):
                self.one_class(name, node)
                methods |= set(node.body)
        for node in ast.walk(tree):
            if isinstance(node, ast.FunctionDef):
                self.one_function(name, node, node in methods)

    def one_class(self, name, node):
        if node.decorator_list or node.keywords or len(node.bases) > 1:
            self.breach("L5", name, node.lineno)
        if any(base.id not in self.classes | ERROR_BASES for base in node.bases):
            self.breach("L18", name, node.lineno)
        seen = [one.name for one in node.body if isinstance(one, ast.FunctionDef)]
        own = {one.attr for one in ast.walk(node) if isinstance(one, ast.Attribute) and isinstance(one.ctx, ast.Store)}
        if len(set(seen)) != len(seen) or own & set(seen):
            self.breach("L18", name, node.lineno)
        for one in node.body:
            if not isinstance(one, (ast.FunctionDef, ast.Expr)):
                self.breach("L5", name, one.lineno)

    def one_function(self, name, node, is_method):
        if node.end_lineno - node.lineno + 1 > 40:
            self.breach("L10", name, node.lineno)
        if node.decorator_list and not (is_method and self.is_property(node)):
            self.breach("L5", name, node.lineno)
        if node.args.vararg or node.args.kwarg or node.args.kwonlyargs or node.args.posonlyargs:
            self.breach("L4", name, node.lineno)
        for default in node.args.defaults:
            if not isinstance(default, ast.Constant):
                self.breach("L4", name, node.lineno)
        if node.name.startswith("__") and (node.name not in SPECIAL or not is_method):
            self.breach("L28", name, node.lineno)
        if node.name == "__init__" and any(isinstance(one, ast.Return) and one.value for one in ast.walk(node)):
            self.breach("L28", name, node.lineno)
        for one in ast.walk(node):
            if isinstance(one, (ast.FunctionDef, ast.Lambda)) and one is not node:
                self.breach("L4", name, one.lineno)

    def is_property(self, node):
        """Whether a method is a property that only reads one attribute of its own object."""
        names = [one.id for one in node.decorator_list if isinstance(one, ast.Name)]
        rows = node.body[1:] if ast.get_docstring(node) is not None else node.body
        reads = len(rows) == 1 and isinstance(rows[0], ast.Return) and isinstance(rows[0].value, ast.Attribute)
        return names == ["property"] and len(node.args.args) == 1 and reads

    def nodes(self, name, tree):
        docstrings = set()
        for node in ast.walk(tree):
            if isinstance(node, (ast.Module, ast.FunctionDef, ast.ClassDef)) and ast.get_docstring(node) is not None:
                docstrings.add(node.body[0])
            for child in ast.iter_child_nodes(node):
                child.above = node
        for node in ast.walk(tree):
            if isinstance(node, ast.stmt) and not isinstance(node, (ast.FunctionDef, ast.ClassDef, ast.ImportFrom)):
                if not isinstance(node, STATEMENTS):
                    self.breach("L6", name, node.lineno)
                elif isinstance(node, ast.Expr) and node not in docstrings and not isinstance(node.value, ast.Call):
                    self.breach("L6", name, node.lineno)
            if isinstance(node, ast.expr):
                self.expression(name, node)

    def expression(self, name, node):
        if not isinstance(node, EXPRESSIONS):
            self.breach("L7", name, node.lineno)
        if isinstance(node, ast.Constant) and not isinstance(node.value, (int, str, type(None))):
            self.breach("L7", name, node.lineno)
        if isinstance(node, ast.Constant) and isinstance(node.value, int) and node.value.bit_length() > 2000:
            self.breach("L27", name, node.lineno)
        if isinstance(node, ast.BinOp) and isinstance(node.op, (ast.Div, ast.MatMult)):
            self.breach("L7", name, node.lineno)
        if isinstance(node, ast.BinOp) and isinstance(node.op, ast.Pow):
            if not isinstance(node.right, ast.Constant) or not 0 <= node.right.value <= 64:
                self.breach("L27", name, node.lineno)
        if isinstance(node, ast.Compare):
            for op, right in zip(node.ops, node.comparators):
                if isinstance(op, (ast.Is, ast.IsNot)) and not isinstance(right, ast.Constant):
                    self.breach("L20", name, node.lineno)
        if isinstance(node, ast.Call):
            self.call(name, node)
        if isinstance(node, ast.Name) and node.id in BUILTINS and isinstance(node.ctx, ast.Load):
            self.builtin(name, node)

    def builtin(self, name, node):
        above = node.above
        if isinstance(above, ast.Call) and above.func is node and node.id in CALLED:
            return
        if node.id in ERROR_BASES and isinstance(above, ast.ClassDef):
            return
        if node.id == "property" and isinstance(above, ast.FunctionDef) and node in above.decorator_list:
            return
        second = above if isinstance(above, ast.Call) else getattr(above, "above", None)
        if isinstance(second, ast.Call) and isinstance(second.func, ast.Name) and second.func.id == "isinstance":
            if node.id in CHECKED_KINDS:
                return
        self.breach("L8", name, node.lineno)

    def call(self, name, node):
        if any(isinstance(one, ast.Starred) for one in node.args) or any(one.arg is None for one in node.keywords):
            self.breach("L7", name, node.lineno)
        if isinstance(node.func, ast.Attribute):
            if node.func.attr not in METHODS | self.own_methods:
                self.breach("L25", name, node.lineno)
            if node.func.attr in METHODS and node.keywords:
                self.breach("L25", name, node.lineno)
        elif isinstance(node.func, ast.Name):
            kind = node.func.id
            if kind in BUILTINS and any(one.arg not in KEYWORDS.get(kind, ()) for one in node.keywords):
                self.breach("L22", name, node.lineno)
            if kind in {"range", "zip", "enumerate", "reversed"}:
                self.iterated_at_once(name, node)
        else:
            self.breach("L7", name, node.lineno)

    def iterated_at_once(self, name, node):
        above = node.above
        if isinstance(above, ast.For) and above.iter is node or isinstance(above, ast.comprehension) and above.iter is node:
            return
        if isinstance(above, ast.Call) and isinstance(above.func, ast.Name):
            if above.func.id in AT_ONCE | ({"len", "reversed"} if node.func.id == "range" else set()):
                return
        kept = isinstance(above, ast.Assign) and isinstance(above.targets[0], ast.Name) and node.func.id == "range"
        if not kept:
            self.breach("L23", name, node.lineno)


def breaches(files):
    """All breaches of the rules in the files, each with its rule, file and line."""
    return Look(files).all()
