"""The rules of LANGUAGE.md that can be checked by reading the source, as far as this package meets them.

`problems(sources)` takes a dict from file names to sources, and returns a list of triples: rule, file and
line, text. It is stricter than the rules in places where the package does not need what they allow.
"""

import ast
import builtins
import re
import warnings

PACKAGE = "framehistory"
LIBRARY = {
    "heapq": {"heappush", "heappop", "heapify", "heapreplace", "heappushpop"},
    "math": {"gcd", "lcm", "isqrt", "comb", "perm", "factorial"},
    "itertools": {
        "product", "combinations", "permutations", "chain", "accumulate", "pairwise", "islice", "zip_longest",
    },
    "collections": {"defaultdict"},
}
ALLOWED_BUILTINS = set(
    "len range enumerate zip min max sum abs sorted reversed int str bool list tuple dict set isinstance ord repr"
    " any all divmod map iter next super property staticmethod classmethod NotImplemented Exception ValueError"
    " TypeError KeyError IndexError LookupError ZeroDivisionError ArithmeticError OverflowError RuntimeError"
    " NotImplementedError AttributeError StopIteration".split()
)
BUILTIN_NAMES = {name for name in dir(builtins) if not name.startswith("_")}
ERROR_NAMES = {name for name in BUILTIN_NAMES if name.endswith("Error") or name in ("Exception", "StopIteration")}
DUNDERS = set(
    "__init__ __eq__ __repr__ __str__ __len__ __enter__ __exit__ __call__ __iter__ __lt__ __le__ __gt__ __ge__ __ne__"
    " __add__ __sub__ __bool__ __contains__ __getitem__ __setitem__".split()
)
BUILTIN_METHODS = set(
    "append clear copy count endswith extend find get index insert isalnum isalpha isdigit islower isspace isupper"
    " items join keys ljust lower lstrip partition pop remove replace reverse rfind rjust rpartition rsplit rstrip"
    " setdefault split splitlines startswith strip update upper values zfill bit_length title capitalize swapcase"
    " casefold center expandtabs removeprefix removesuffix rindex isascii isdecimal isnumeric istitle isidentifier"
    " isprintable translate sort add discard".split()
)
OWN_METHODS_ALSO = set(
    "append clear copy count endswith extend find get index insert isalnum isalpha isdigit islower isspace isupper"
    " items join keys ljust lower lstrip partition pop remove replace reverse rfind rjust rpartition rsplit rstrip"
    " setdefault split splitlines startswith strip update upper values zfill add discard".split()
)
ATTRIBUTES_ALSO = set("count index title find get join lower upper split strip copy add".split())
CHANGING = set("append clear extend insert pop remove reverse setdefault update sort add discard".split())
VALUE_NAMES = {name for kind in (str, int, bytes, list, dict, set, tuple) for name in dir(kind)}
BARRED = set("register mro elements open input law version_info with_traceback add_note".split())
BARRED_NAMES = set(
    "attrgetter breakpoint builtins compile copyright credits delattr dir eval exec exit gc getattr globals hasattr"
    " help id importlib license locals methodcaller os quit setattr type vars sys".split()
)
BARRED_WORDS = (
    "type", "typing", "typing_extensions", "enum", "Enum", "IntEnum", "StrEnum", "Flag", "IntFlag", "Generic",
    "Protocol", "ABC", "ABCMeta", "namedtuple", "NamedTuple", "TypedDict", "TYPE_CHECKING", "abstractmethod",
)
BARRED_STARTS = ("_wall", "_pe_", "_dcw_", "_enum_", "_cm_", "_twin_re_", "_lay_", "_law_", "_stub_", "_sre", "_WallAttr")
BARRED_WHOLE = re.compile(r"(_cold|_tuplegetter|_outside|_record|_written_out|_member_names)[0-9_]*$")
ITERATED = ("zip", "enumerate", "reversed", "range", "map")
TAKERS = ("list", "tuple", "dict", "sorted", "sum", "any", "all", "enumerate", "zip", "min", "max")
COMPREHENSIONS = (ast.ListComp, ast.SetComp, ast.DictComp, ast.GeneratorExp)
FUNCTIONS = (ast.FunctionDef, ast.Lambda)
STATEMENTS = (
    ast.Assign, ast.AugAssign, ast.AnnAssign, ast.If, ast.While, ast.For, ast.Return, ast.Break, ast.Continue,
    ast.Pass, ast.Raise, ast.Assert, ast.Delete, ast.Nonlocal, ast.Match, ast.With, ast.Try, ast.Expr,
    ast.FunctionDef, ast.ClassDef, ast.ImportFrom,
)
EXPRESSIONS = (
    ast.BoolOp, ast.NamedExpr, ast.BinOp, ast.UnaryOp, ast.Lambda, ast.IfExp, ast.Dict, ast.Set, ast.ListComp,
    ast.SetComp, ast.DictComp, ast.GeneratorExp, ast.Yield, ast.YieldFrom, ast.Compare, ast.Call, ast.FormattedValue,
    ast.JoinedStr, ast.Constant, ast.Attribute, ast.Subscript, ast.Starred, ast.Name, ast.List, ast.Tuple, ast.Slice,
)


class Package:
    """What the files of the package have together."""

    def __init__(self, sources):
        self.trees = {name: ast.parse(text) for name, text in sources.items()}
        self.names = {name: bound_names(tree) for name, tree in self.trees.items()}
        self.classes = [node for tree in self.trees.values() for node in tree.body if isinstance(node, ast.ClassDef)]
        self.methods = {}
        self.properties = set()
        self.generators = set()
        self.stored = set()
        for tree in self.trees.values():
            for node in ast.walk(tree):
                if isinstance(node, ast.FunctionDef) and has_yield(node):
                    self.generators.add(node.name)
                if isinstance(node, ast.Attribute) and isinstance(node.ctx, ast.Store):
                    self.stored.add(node.attr)
        for owner in self.classes:
            for node in owner.body:
                if isinstance(node, ast.FunctionDef):
                    self.methods.setdefault(node.name, []).append(owner.name)
                    if is_property(node):
                        self.properties.add(node.name)
        functions = [node for tree in self.trees.values() for node in ast.walk(tree) if isinstance(node, ast.FunctionDef)]
        self.functions = [node.name for node in functions]
        self.has_eq = any("__eq__" in methods_of(owner) for owner in self.classes)


def methods_of(owner):
    return [node.name for node in owner.body if isinstance(node, ast.FunctionDef)]


def is_property(node):
    return any(isinstance(one, ast.Name) and one.id == "property" for one in node.decorator_list)


def own_nodes(function):
    """The nodes of a function, without those of functions nested in it."""
    todo = list(function.body) if isinstance(function.body, list) else [function.body]
    while todo:
        node = todo.pop()
        yield node
        if not isinstance(node, FUNCTIONS + (ast.ClassDef,)):
            todo.extend(ast.iter_child_nodes(node))


def has_yield(function):
    return any(isinstance(node, (ast.Yield, ast.YieldFrom)) for node in own_nodes(function))


def bound_names(tree):
    names = []
    for node in tree.body:
        if isinstance(node, (ast.FunctionDef, ast.ClassDef)):
            names.append(node.name)
        elif isinstance(node, ast.ImportFrom):
            names.extend(alias.asname or alias.name for alias in node.names)
        elif isinstance(node, ast.Assign):
            names.extend(target.id for target in node.targets if isinstance(target, ast.Name))
    return names


def all_arguments(function):
    spec = function.args
    rest = [one for one in (spec.vararg, spec.kwarg) if one is not None]
    return spec.posonlyargs + spec.args + spec.kwonlyargs + rest


class Reader:
    """One file, read against the rules."""

    def __init__(self, name, text, package):
        self.name = name
        self.text = text
        self.package = package
        self.tree = package.trees[name]
        self.found = []
        self.parents = {}
        for node in ast.walk(self.tree):
            for child in ast.iter_child_nodes(node):
                self.parents[child] = node

    def say(self, rule, node, text):
        line = node if isinstance(node, int) else getattr(node, "lineno", 0)
        self.found.append((rule, f"{self.name}:{line}", text))

    def read(self):
        self.read_text()
        self.read_module()
        for node in ast.walk(self.tree):
            self.read_node(node)
            if isinstance(node, ast.ClassDef):
                self.read_class(node)
            if isinstance(node, ast.FunctionDef):
                self.read_function(node)
            if isinstance(node, ast.Call):
                self.read_call(node)
            if isinstance(node, (ast.For, ast.comprehension)):
                self.read_loop(node)
        return self.found

    # -- the text --

    def read_text(self):
        lines = self.text.split("\n")
        if len(lines) > 400:
            self.say("L10", 400, "the file is too long")
        for number, line in enumerate(lines, start=1):
            if len(line) > 120:
                self.say("L10", number, "the line is too long")
            if any(not " " <= letter <= "~" for letter in line):
                self.say("L14", number, "a character that is not plain")
            if "_wall" in line or "_WallAttr" in line:
                self.say("L12", number, "a barred word")
            if re.search(r"\(type\)|Meta|metaclass=", line):
                self.say("L17", number, "a barred word beside __getitem__")
            if len(re.findall(r"\blambda\b", line)) > 1:
                self.say("L13", number, "two lambdas on a line")
        with warnings.catch_warnings():
            warnings.simplefilter("error")
            compile(self.text, self.name, "exec")
        self.read_words()

    def read_words(self):
        docstrings = set()
        for node in ast.walk(self.tree):
            if isinstance(node, (ast.Module, ast.ClassDef, ast.FunctionDef)) and ast.get_docstring(node, False) is not None:
                docstrings.add(node.body[0].value)
        for node in ast.walk(self.tree):
            words = []
            if isinstance(node, ast.Name):
                words = [node.id]
            elif isinstance(node, ast.Attribute):
                words = [node.attr]
            elif isinstance(node, ast.Constant) and isinstance(node.value, str) and node not in docstrings:
                words = re.findall(r"\w+", node.value)
                self.read_string(node)
            for word in words:
                if word in BARRED_WORDS or re.search("dataclass|overload|contextmanager", word):
                    self.say("L17", node, word)

    def read_string(self, node):
        value = node.value
        if "%" in value or "\r" in value or value.endswith(("._", ".__")):
            self.say("L27", node, "a barred character in a string")
        if value != "__main__" and re.match(r"__.*__$", value):
            self.say("L27", node, "a string with underscores around it")

    # -- the module --

    def read_module(self):
        body = list(self.tree.body)
        if body and isinstance(body[0], ast.Expr) and isinstance(body[0].value, ast.Constant):
            body = body[1:]
        others = False
        for node in body:
            if isinstance(node, ast.ImportFrom):
                if others:
                    self.say("L2", node, "an import below other rows")
                self.read_import(node)
                continue
            others = True
            if isinstance(node, ast.Import):
                self.say("L2", node, "an import of a module")
                continue
            if isinstance(node, ast.Assign):
                self.read_constant(node)
            elif not isinstance(node, (ast.FunctionDef, ast.ClassDef)):
                self.say("L3", node, "not allowed at module level")
        names = self.package.names[self.name]
        for name in names:
            if names.count(name) > 1:
                self.say("L15", 1, f"{name} is bound twice")
            if name in BUILTIN_NAMES:
                self.say("L15", 1, f"{name} is a builtin")

    def read_import(self, node):
        module = node.module or ""
        if node.level != 0:
            self.say("L2", node, "a relative import")
        for alias in node.names:
            if alias.asname is not None or alias.name == "*":
                self.say("L2", node, "an import with as, or of all")
            if module in LIBRARY:
                if alias.name not in LIBRARY[module]:
                    self.say("L2", node, f"{alias.name} is not allowed")
                continue
            short = module[len(PACKAGE) + 1:] + ".py"
            if not module.startswith(PACKAGE + ".") or short not in self.package.trees:
                self.say("L2", node, f"{module} is not of the package")
            elif alias.name not in defined_names(self.package.trees[short]):
                self.say("L16", node, f"{alias.name} is not defined in {short}")

    def read_constant(self, node):
        if len(node.targets) != 1 or not isinstance(node.targets[0], ast.Name):
            self.say("L3", node, "not one plain name")
        try:
            value = ast.literal_eval(node.value)
        except ValueError:
            self.say("L3", node, "not a plain value")
            return
        if isinstance(value, (float, complex, set)):
            self.say("L7", node, "not an allowed value")
        if isinstance(value, (list, tuple, dict)):
            inner = list(value.values()) if isinstance(value, dict) else value
            if any(isinstance(one, (list, dict)) for one in inner):
                self.say("L15", node, "a list or dict inside another one")

    # -- single nodes --

    def read_node(self, node):
        if isinstance(node, ast.stmt) and not isinstance(node, STATEMENTS):
            self.say("L6", node, "a statement that is not allowed")
        if isinstance(node, ast.expr) and not isinstance(node, EXPRESSIONS):
            self.say("L7", node, "an expression that is not allowed")
        if isinstance(node, (ast.Div, ast.MatMult)):
            self.say("L7", 0, "an operator that is not allowed")
        if isinstance(node, ast.Constant) and isinstance(node.value, (float, complex)):
            self.say("L7", node, "a float")
        if isinstance(node, ast.Pow):
            self.say("L27", 0, "a power")
        if isinstance(node, ast.Compare):
            self.read_compare(node)
        if isinstance(node, ast.GeneratorExp):
            self.read_generator_expression(node)
        if isinstance(node, (ast.Set, ast.SetComp)):
            self.read_set(node)
        if isinstance(node, ast.Name):
            self.read_name(node)
        if isinstance(node, ast.Attribute):
            self.read_attribute(node)
        if isinstance(node, ast.ExceptHandler):
            self.read_handler(node)
        if isinstance(node, ast.Raise):
            self.read_raise(node)
        if isinstance(node, FUNCTIONS):
            self.read_arguments(node)

    def read_compare(self, node):
        for sign, right in zip(node.ops, node.comparators):
            plain = isinstance(right, ast.Constant) and (right.value is None or isinstance(right.value, bool))
            if isinstance(sign, (ast.Is, ast.IsNot)) and not plain:
                self.say("L20", node, "is beside something else")

    def read_generator_expression(self, node):
        parent = self.parents[node]
        takers = ("list", "tuple", "dict") if self.package.has_eq else TAKERS
        if not (isinstance(parent, ast.Call) and call_name(parent) in takers and len(parent.args) == 1):
            self.say("L7", node, "a generator expression in another place")

    def read_set(self, node):
        parent = self.parents[node]
        if isinstance(parent, ast.Call) and call_name(parent) in ("sorted", "len") and not parent.keywords:
            return
        if isinstance(parent, ast.Compare):
            return
        if isinstance(parent, ast.Assign) and isinstance(parent.targets[0], ast.Name) and self.function_of(node):
            return
        self.say("L24", node, "a set in another place")

    def read_name(self, node):
        self.check_name(node.id, node)
        if node.id in BUILTIN_NAMES and isinstance(node.ctx, ast.Store):
            self.say("L15", node, f"{node.id} is a builtin")
        if node.id == "_" and isinstance(node.ctx, ast.Load):
            self.say("L12", node, "_ is read")
        if node.id in BUILTIN_NAMES and isinstance(node.ctx, ast.Load):
            self.read_builtin(node)

    def read_builtin(self, node):
        if node.id not in ALLOWED_BUILTINS:
            self.say("L8", node, node.id)
            return
        parent = self.parents[node]
        called = isinstance(parent, ast.Call) and parent.func is node
        in_isinstance = isinstance(parent, ast.Call) and call_name(parent) == "isinstance"
        if isinstance(parent, ast.Tuple):
            outer = self.parents[parent]
            in_isinstance = isinstance(outer, ast.Call) and call_name(outer) == "isinstance"
        if called or in_isinstance or node.id in ERROR_NAMES or isinstance(parent, (ast.FunctionDef, ast.ClassDef)):
            return
        if isinstance(parent, ast.keyword) and parent.arg == "key" and node.id in ("len", "int", "str", "abs", "sum"):
            return
        self.say("L22", node, f"{node.id} is not called")

    def read_attribute(self, node):
        self.check_name(node.attr, node)
        if node.attr in ("format", "format_map", "mro"):
            self.say("L8", node, node.attr)
        parent = self.parents[node]
        if isinstance(node.ctx, ast.Store):
            if node.attr in self.package.properties:
                self.say("L5", node, f"{node.attr} is a property without a setter")
            if node.attr in VALUE_NAMES and node.attr not in ATTRIBUTES_ALSO:
                self.say("L26", node, f"an attribute {node.attr}")
            if not isinstance(node.value, ast.Name):
                self.say("L18", node, "an attribute not assigned through a local name")
        elif isinstance(parent, ast.Call) and parent.func is node:
            if node.attr not in self.package.methods and node.attr not in BUILTIN_METHODS and node.attr != "__init__":
                self.say("L25", node, f"a method {node.attr}")
        elif node.attr not in self.package.stored and node.attr not in self.package.properties:
            self.say("L18", node, f"{node.attr} is read, but nowhere assigned")

    def check_name(self, name, node):
        dunder = name.startswith("__") and name.endswith("__")
        if name != "_" and not dunder and not re.match(r"(_?[A-Za-z][A-Za-z0-9_]*)$", name):
            self.say("L12", node, name)
        if name.startswith("__") and name not in DUNDERS:
            self.say("L8", node, name)
        is_attribute = isinstance(node, ast.Attribute)
        if (name.startswith(BARRED_STARTS) and not is_attribute) or BARRED_WHOLE.match(name):
            self.say("L12", node, name)
        if name in BARRED or re.match("(f|tb|co|gi|cr)_[a-z]", name):
            self.say("L17", node, name)
        if name in BARRED_NAMES and not is_attribute:
            self.say("L17", node, name)

    def read_handler(self, node):
        named = node.type.elts if isinstance(node.type, ast.Tuple) else [node.type]
        for one in named:
            if not isinstance(one, ast.Name) or (one.id in BUILTIN_NAMES and one.id not in ("KeyError", "ZeroDivisionError")):
                self.say("L19", node, "an error that is not caught")

    def read_raise(self, node):
        if node.exc is None:
            return
        error = node.exc.func if isinstance(node.exc, ast.Call) else None
        if not isinstance(error, ast.Name) or not error.id[0].isupper():
            self.say("L19", node, "an error that is not created on the spot")

    def read_arguments(self, node):
        for one in all_arguments(node):
            self.check_name(one.arg, node)
            if one.arg in BUILTIN_NAMES:
                self.say("L15", node, f"{one.arg} is a builtin")
            if one.annotation is not None:
                self.say("L21", node, "an annotation")
        defaults = node.args.defaults + [one for one in node.args.kw_defaults if one is not None]
        for value in defaults:
            plain = isinstance(value, ast.Name) and value.id.isupper()
            try:
                plain = plain or isinstance(ast.literal_eval(value), (int, str, bytes, tuple, bool, str))
            except ValueError:
                plain = isinstance(value, ast.Constant) and value.value is None
            if not plain:
                self.say("L4", node, "a default value that is not plain")

    # -- calls --

    def read_call(self, node):
        name = call_name(node)
        method = node.func.attr if isinstance(node.func, ast.Attribute) else None
        if name in ("range", "zip", "enumerate", "reversed", "map") or (
            method in ("items", "keys", "values") and method not in self.package.methods
        ):
            self.read_iterated(node)
        if name in self.package.generators or method in self.package.generators:
            self.read_generator(node)
        if name == "set" and not self.is_set_place(node):
            self.say("L24", node, "a set in another place")
        if name == "frozenset":
            self.say("L24", node, "a frozenset")
        if name == "isinstance" and not self.is_kind(node.args[1]):
            self.say("L22", node, "isinstance with something else")
        if name in ("sorted", "min", "max"):
            allowed = {"sorted": ("key", "reverse"), "min": ("key", "default"), "max": ("key", "default")}[name]
            if any(one.arg not in allowed for one in node.keywords):
                self.say("L22", node, "a keyword")
        elif name in BUILTIN_NAMES and node.keywords and name not in ("sum", "enumerate", "zip"):
            self.say("L22", node, "a keyword of a builtin")
        if method in BUILTIN_METHODS and node.keywords:
            self.say("L25", node, "a keyword of a method")
        if method in OWN_METHODS_ALSO and any(isinstance(one, ast.Starred) for one in node.args):
            self.say("L7", node, "a star in a call of a method")
        if isinstance(node.func, ast.Constant):
            self.say("L7", node, "a literal is called")

    def is_kind(self, node):
        kinds = node.elts if isinstance(node, ast.Tuple) else [node]
        own = [owner.name for owner in self.package.classes]
        return all(
            isinstance(one, ast.Name) and one.id in ["int", "str", "bool", "bytes", "list", "tuple", "dict"] + own
            for one in kinds
        )

    def is_set_place(self, node):
        parent = self.parents[node]
        if isinstance(parent, ast.Call) and call_name(parent) in ("sorted", "len") and not parent.keywords:
            return True
        return isinstance(parent, ast.Compare) or (
            isinstance(parent, ast.Assign) and isinstance(parent.targets[0], ast.Name)
        )

    def is_iterated(self, node, takers):
        parent = self.parents[node]
        if isinstance(parent, (ast.For, ast.comprehension)):
            return parent.iter is node
        if isinstance(parent, ast.YieldFrom):
            return True
        return isinstance(parent, ast.Call) and call_name(parent) in takers and node in parent.args

    def read_iterated(self, node):
        if not self.is_iterated(node, TAKERS):
            parent = self.parents[node]
            if isinstance(parent, ast.Compare) and call_name(node) == "range":
                return
            self.say("L23", node, "not iterated at once")

    def read_generator(self, node):
        takers = ("list", "tuple", "dict", "enumerate", "zip") if self.package.has_eq else TAKERS
        if not self.is_iterated(node, takers):
            self.say("L23", node, "a generator that is not iterated at once")

    def read_loop(self, node):
        """What a loop goes over is not changed in it."""
        bases = []
        for one in ast.walk(node.iter):
            if isinstance(one, (ast.Name, ast.Attribute)):
                bases.append(ast.dump(one).replace("Store()", "Load()"))
        if isinstance(node.iter, ast.Call) and call_name(node.iter) in ("list", "sorted", "range", "tuple"):
            return
        if isinstance(node, ast.comprehension):
            return
        for part in node.body:
            for one in ast.walk(part):
                changed = None
                if isinstance(one, ast.Call) and isinstance(one.func, ast.Attribute) and one.func.attr in CHANGING:
                    changed = one.func.value
                if isinstance(one, ast.Subscript) and isinstance(one.ctx, (ast.Store, ast.Del)):
                    changed = one.value
                if changed is not None and ast.dump(changed).replace("Store()", "Load()") in bases:
                    self.say("L23", one, "what the loop goes over is changed")

    # -- functions and classes --

    def function_of(self, node):
        while node in self.parents:
            node = self.parents[node]
            if isinstance(node, FUNCTIONS):
                return node
        return None

    def read_function(self, node):
        start = min([node.lineno] + [one.lineno for one in node.decorator_list])
        if node.end_lineno - start + 1 > 40:
            self.say("L10", node, "the function is too long")
        if node.returns is not None:
            self.say("L21", node, "an annotation")
        self.check_name(node.name, node)
        if node.name in BUILTIN_NAMES:
            self.say("L15", node, f"{node.name} is a builtin")
        if node.name in self.package.generators:
            if self.package.functions.count(node.name) > 1 or node.name in BUILTIN_METHODS:
                self.say("L23", node, "a generator with a name that another function has")
        in_class = isinstance(self.parents[node], ast.ClassDef)
        if node.decorator_list and not in_class:
            self.say("L4", node, "a decorator")
        if node.name.startswith("__") and not in_class:
            self.say("L28", node, "outside of a class")
        self.read_locals(node)

    def read_locals(self, node):
        imports = [one.name for row in self.tree.body if isinstance(row, ast.ImportFrom) for one in row.names]
        barred = imports + [row.name for row in self.tree.body if isinstance(row, ast.ClassDef)]
        assigned = [one.arg for one in all_arguments(node)]
        for one in ast.walk(node):
            if isinstance(one, ast.Name) and isinstance(one.ctx, ast.Store):
                assigned.append(one.id)
            if isinstance(one, ast.Lambda):
                assigned.extend(arg.arg for arg in all_arguments(one))
            if isinstance(one, ast.FunctionDef) and one is not node:
                assigned.append(one.name)
            if isinstance(one, ast.Call) and call_name(one) in self.package.generators and call_name(one) in assigned:
                self.say("L23", one, "a local name of a generator is called")
        for name in assigned:
            if name in barred:
                self.say("L15", node, f"{name} is a class or an import")

    def read_class(self, node):
        methods = methods_of(node)
        for name in methods:
            if methods.count(name) > 1:
                self.say("L18", node, f"{name} is defined twice")
            if name.startswith("__") and name not in DUNDERS:
                self.say("L5", node, name)
            if name in VALUE_NAMES and name not in OWN_METHODS_ALSO and name not in DUNDERS:
                self.say("L26", node, f"a method {name}")
            if name in ALLOWED_BUILTINS:
                self.say("L8", node, f"a method {name}")
        if "__getitem__" in methods and "__iter__" not in methods:
            self.say("L5", node, "__getitem__ without __iter__")
        if node.decorator_list or node.keywords:
            self.say("L5", node, "a decorator or a keyword")
        for base in node.bases:
            if not isinstance(base, ast.Name):
                self.say("L5", node, "a base that is not a name")
        stored = {
            one.attr for one in ast.walk(node)
            if isinstance(one, ast.Attribute) and isinstance(one.ctx, ast.Store) and isinstance(one.value, ast.Name)
            and one.value.id == "self"
        }
        for name in stored & set(methods):
            self.say("L18", node, f"{name} is a method and an attribute")
        for part in node.body:
            self.read_member(part)

    def read_member(self, part):
        if isinstance(part, ast.Expr) and isinstance(part.value, ast.Constant):
            return
        if not isinstance(part, ast.FunctionDef):
            self.say("L5", part, "not a method")
            return
        for decorator in part.decorator_list:
            if not (isinstance(decorator, ast.Name) and decorator.id in ("property", "staticmethod", "classmethod")):
                self.say("L4", part, "a decorator")
        if is_property(part):
            self.read_property(part)
        if part.name in ("__eq__", "__len__", "__repr__", "__str__", "__getitem__"):
            self.read_changes(part)
        if part.name == "__exit__":
            self.read_exit(part)
        if part.name == "__init__" and any(isinstance(one, ast.Return) for one in ast.walk(part)):
            self.say("L28", part, "__init__ returns")
        if part.name == "__len__":
            value = part.body[-1].value if isinstance(part.body[-1], ast.Return) else None
            if not (isinstance(value, ast.Call) and call_name(value) == "len"):
                self.say("L28", part, "__len__ returns something else")

    def read_exit(self, part):
        """Only plain assignments, the first of them perhaps to a local name."""
        if [one.arg for one in all_arguments(part)] != ["self", "kind", "value", "trace"]:
            self.say("L6", part, "other parameters of __exit__")
        for index, row in enumerate(part.body):
            plain = isinstance(row, ast.Assign) and len(row.targets) == 1 and isinstance(row.value, (ast.Attribute, ast.Name))
            target = row.targets[0] if plain else None
            inner = ast.walk(row.value) if plain else ()
            plain = plain and all(isinstance(one, (ast.Attribute, ast.Name, ast.expr_context)) for one in inner)
            if not plain or not isinstance(target, ast.Attribute if index else (ast.Attribute, ast.Name)):
                self.say("L6", row, "a row that may not stand in __exit__")

    def read_property(self, part):
        self.read_changes(part)
        if len(self.package.methods[part.name]) > 1 and part.name in self.package.functions:
            owners = [owner for owner in self.package.classes if part.name in methods_of(owner)]
            kinds = [is_property(one) for owner in owners for one in owner.body if getattr(one, "name", "") == part.name]
            if not all(kinds):
                self.say("L5", part, "a property with the name of a method")
        if part.name in VALUE_NAMES:
            self.say("L5", part, "a property with the name of a builtin method")

    def read_changes(self, part):
        for one in ast.walk(part):
            if isinstance(one, (ast.Attribute, ast.Subscript)) and isinstance(one.ctx, (ast.Store, ast.Del)):
                self.say("L5", one, "a property or an operator changes something")
            if isinstance(one, ast.Call) and isinstance(one.func, ast.Attribute) and one.func.attr in CHANGING:
                self.say("L5", one, "a property or an operator changes something")


def call_name(node):
    return node.func.id if isinstance(node, ast.Call) and isinstance(node.func, ast.Name) else None


def defined_names(tree):
    names = [node.name for node in tree.body if isinstance(node, (ast.FunctionDef, ast.ClassDef))]
    return names + [target.id for node in tree.body if isinstance(node, ast.Assign) for target in node.targets]


def import_graph(package):
    graph = {}
    for name, tree in package.trees.items():
        modules = [node.module for node in tree.body if isinstance(node, ast.ImportFrom) and node.module]
        graph[name] = {one[len(PACKAGE) + 1:] + ".py" for one in modules if one.startswith(PACKAGE + ".")}
    return graph


def has_cycle(graph):
    left = {name: set(others) for name, others in graph.items()}
    while left:
        free = [name for name, others in left.items() if not others & set(left)]
        if not free:
            return True
        for name in free:
            del left[name]
    return False


def problems(sources):
    package = Package(sources)
    found = []
    for name, text in sources.items():
        found.extend(Reader(name, text, package).read())
    if has_cycle(import_graph(package)):
        found.append(("L16", "package", "files import from each other"))
    return found
