"""What of ../shared/LANGUAGE.md a small script can look for in the files of the package."""

import ast
import builtins
import pathlib
import re
import unittest
import warnings

PACKAGE = pathlib.Path(__file__).resolve().parent.parent / "packedbases"

BUILTINS = set("""len range enumerate zip min max sum abs sorted reversed int str bool bytes list tuple dict set
frozenset isinstance ord repr any all divmod Exception ValueError TypeError KeyError IndexError LookupError
ZeroDivisionError ArithmeticError OverflowError RuntimeError NotImplementedError AttributeError StopIteration
NotImplemented iter next""".split())
DECORATORS = {"property", "staticmethod", "classmethod", "super"}
LIBRARY = {"heapq": {"heappush", "heappop", "heapify", "heapreplace", "heappushpop"},
           "math": {"gcd", "lcm", "isqrt", "comb", "perm", "factorial"},
           "itertools": {"product", "combinations", "permutations"}}
METHODS = set("""append clear copy count endswith extend find get index insert isalnum isalpha isdigit islower isspace
isupper items join keys ljust lower lstrip partition pop remove replace reverse rfind rjust rpartition rsplit rstrip
setdefault split splitlines startswith strip update upper values zfill bit_length add discard""".split())
DOUBLE = set("""__init__ __eq__ __repr__ __str__ __len__ __enter__ __exit__ __call__ __iter__ __lt__ __le__ __gt__
__ge__ __ne__ __add__ __sub__ __mul__ __and__ __or__ __xor__ __neg__ __pos__ __invert__ __abs__ __bool__ __contains__
__getitem__ __setitem__""".split())
NEVER = set("register mro elements open input law version_info with_traceback add_note".split())
NO_NAMES = set("""attrgetter breakpoint builtins compile copyright credits delattr dir eval exec exit gc getattr globals
hasattr help id importlib license locals methodcaller os quit setattr super type vars sys""".split())
NO_WORDS = set("""type typing typing_extensions enum Enum IntEnum StrEnum Flag IntFlag Generic Protocol ABC ABCMeta
namedtuple NamedTuple TypedDict TYPE_CHECKING abstractmethod dataclass overload contextmanager""".split())
ON_THE_SPOT = {"zip", "enumerate", "reversed", "range"}
OPERATORS = set("""__contains__ __getitem__ __eq__ __len__ __or__ __and__ __sub__ __add__ __invert__ __le__ __lt__
__ge__ __gt__ __bool__""".split())
# What a class may have that is run by no sign: where it stands, a name may be a method and an attribute.
NO_OPERATORS = {"__init__", "__enter__", "__exit__", "__call__"}
# What is plainly a number or a string, and the keys that make it so.
PLAIN_CALLS = {"int", "len", "str", "ord", "repr", "abs", "range"}
PLAIN_KEYS = {"int", "len", "str"}
# What iterates over a generator at once.
ITERATING = {"list", "tuple", "dict", "enumerate", "zip"}
CHANGING = set("append clear extend insert pop remove reverse setdefault update add discard sort".split())
CATCHABLE = {"KeyError", "ZeroDivisionError", "StopIteration"}
STATEMENTS = (ast.Assign, ast.AugAssign, ast.If, ast.While, ast.For, ast.Return, ast.Break, ast.Continue, ast.Pass,
              ast.Raise, ast.Assert, ast.Delete, ast.Nonlocal, ast.Match, ast.With, ast.Try, ast.Expr, ast.Import,
              ast.ImportFrom, ast.FunctionDef, ast.ClassDef)
PLAIN_NAME = re.compile(r"_?[A-Za-z][A-Za-z0-9_]*|_")


def is_docstring(node):
    return isinstance(node, ast.Expr) and isinstance(node.value, ast.Constant) and isinstance(node.value.value, str)


def is_plain(node):
    """Whether an expression is plainly a number or a string, or a list of such."""
    if isinstance(node, (ast.List, ast.ListComp)):
        return all(map(is_plain, node.elts if isinstance(node, ast.List) else [node.elt]))
    if isinstance(node, ast.BinOp):
        return is_plain(node.left) and is_plain(node.right)
    called = isinstance(node, ast.Call) and ast.unparse(node.func)
    return isinstance(node, (ast.Constant, ast.JoinedStr)) or called in PLAIN_CALLS


def is_plainly_ordered(node):
    """Whether a call of sorted, min or max has a key, or takes what is plainly numbers or strings."""
    keys = [ast.unparse(part.value) for part in node.keywords if part.arg == "key"]
    return bool(keys) and keys[0] in PLAIN_KEYS or not keys and any(map(is_plain, node.args))


def is_iterated(node, parent):
    """Whether a call of a generator is iterated at once."""
    if isinstance(parent, (ast.For, ast.comprehension)):
        return parent.iter is node
    return isinstance(parent, ast.YieldFrom) or (
        isinstance(parent, ast.Call) and ast.unparse(parent.func) in ITERATING and node in parent.args)


def called_names(node):
    """The names of the functions, methods and classes that a function calls, or takes as a key."""
    parts = [part.func for part in ast.walk(node) if isinstance(part, ast.Call)]
    parts += [part.value for part in ast.walk(node) if isinstance(part, ast.keyword) and part.arg == "key"]
    return {part.id if isinstance(part, ast.Name) else part.attr for part in parts
            if isinstance(part, (ast.Name, ast.Attribute))}


def called_attributes(node):
    """The attributes that a function calls, or takes as a key."""
    parts = [part.func for part in ast.walk(node) if isinstance(part, ast.Call)]
    parts += [part.value for part in ast.walk(node) if isinstance(part, ast.keyword) and part.arg == "key"]
    return [part for part in parts if isinstance(part, ast.Attribute)]


def decorators_of(node):
    return [ast.unparse(part) for part in node.decorator_list]


def is_of_property(node):
    """Whether a function is what is run where a property is read or assigned."""
    return any(told == "property" or told.endswith(".setter") for told in decorators_of(node))


def is_generator(node):
    return any(isinstance(part, (ast.Yield, ast.YieldFrom)) for part in ast.walk(node))


def is_simple(node):
    """Whether a value may be assigned in an __exit__."""
    if isinstance(node, (ast.List, ast.Tuple)):
        return all(map(is_simple, node.elts))
    if isinstance(node, ast.BinOp):
        less = isinstance(node.op, ast.Sub) and isinstance(node.right, ast.Constant)
        return (less or isinstance(node.op, ast.Add)) and is_simple(node.left) and is_simple(node.right)
    return isinstance(node, (ast.Name, ast.Attribute, ast.Constant))


def is_exit_test(node, kind, bare):
    """Whether an __exit__ may ask this, where attributes and names may be asked alone, too, or not."""
    if isinstance(node, ast.BoolOp):
        return all(is_exit_test(part, kind, bare) for part in node.values)
    if isinstance(node, ast.UnaryOp):
        return isinstance(node.op, ast.Not) and is_exit_test(node.operand, kind, bare)
    if isinstance(node, ast.Compare):
        asked, sign, other = node.left, node.ops[0], node.comparators[-1]
        alone = len(node.ops) == 1 and isinstance(asked, (ast.Name, ast.Attribute)) and isinstance(other, ast.Constant)
        if alone and isinstance(sign, (ast.Is, ast.IsNot)):
            return other.value is None
        return alone and bare and ast.unparse(asked) != kind and not isinstance(sign, (ast.In, ast.NotIn))
    return bare and isinstance(node, (ast.Name, ast.Attribute)) and ast.unparse(node) != kind


def is_exit_row(node, kind, bare):
    """Whether a statement may stand in an __exit__."""
    if isinstance(node, ast.If):
        rows = node.body + node.orelse
        return is_exit_test(node.test, kind, bare) and all(is_exit_row(row, kind, bare) for row in rows)
    if isinstance(node, ast.Return):
        return node.value is None or isinstance(node.value, ast.Constant) and node.value.value in (None, False)
    if isinstance(node, ast.Assign):
        return all(isinstance(target, ast.Attribute) for target in node.targets) and is_simple(node.value)
    return is_docstring(node) or isinstance(node, ast.Pass)


def is_own_list(node):
    """Whether a value is a list that is created on the spot."""
    made = isinstance(node, ast.Call) and ast.unparse(node.func) in ("list", "sorted")
    return made or isinstance(node, (ast.List, ast.ListComp))


def bound_names(tree):
    """The names that functions, classes, parameters, targets and imports bind, each with its line."""
    found = []
    for node in ast.walk(tree):
        if isinstance(node, (ast.FunctionDef, ast.ClassDef)):
            found.append((node.name, node.lineno))
        elif isinstance(node, ast.arg):
            found.append((node.arg, node.lineno))
        elif isinstance(node, ast.Name) and isinstance(node.ctx, ast.Store):
            found.append((node.id, node.lineno))
        elif isinstance(node, ast.alias):
            found.append((node.asname or node.name, node.lineno))
        elif isinstance(node, ast.ExceptHandler) and node.name:
            found.append((node.name, node.lineno))
    return found


def parents_of(tree):
    """Each node's parent."""
    return {child: node for node in ast.walk(tree) for child in ast.iter_child_nodes(node)}


class Look:
    """Looks through the files of a package, given as a dict from their names to their texts."""

    def __init__(self, texts, package="packedbases"):
        self.texts = texts
        self.package = package
        self.found = []
        self.trees = {}
        for name, text in texts.items():
            with warnings.catch_warnings():
                warnings.simplefilter("error")
                self.trees[name] = ast.parse(text)
                compile(text, name, "exec")
        self.own_methods = {item.name for tree in self.trees.values() for node in ast.walk(tree)
                            if isinstance(node, ast.ClassDef) for item in node.body
                            if isinstance(item, ast.FunctionDef)}
        # An attribute alone is no test in an __exit__ where some class has an == or a length of its own.
        self.bare = not self.own_methods & {"__eq__", "__len__"}
        self.own_errors = {node.name for tree in self.trees.values() for node in tree.body
                           if isinstance(node, ast.ClassDef)} - BUILTINS
        for name in texts:
            self.look_at_text(name, texts[name])
            self.look_at_module(name, self.trees[name])
            self.look_at_nodes(name, self.trees[name])
        self.look_at_imports()
        self.look_at_generators()
        self.look_at_what_operators_run()
        self.look_at_names_of_both()

    def tell(self, rule, name, line):
        self.found.append((rule, name, line))

    def look_at_text(self, name, text):
        lines = text.split("\n")
        if len(lines) > 400 or not text.endswith("\n") and text:
            self.tell("L10", name, len(lines))
        for number, line in enumerate(lines, 1):
            if len(line) > 120:
                self.tell("L10", name, number)
            if any(not " " <= letter <= "~" for letter in line):
                self.tell("L14", name, number)
            if "_wall" in line or "_WallAttr" in line:
                self.tell("L12", name, number)
        if not re.fullmatch(r"[a-z][a-z0-9_]*\.py|__init__\.py|__main__\.py", name):
            self.tell("L1", name, 0)

    def look_at_module(self, name, tree):
        imports_over = False
        names = []
        for node in tree.body:
            if isinstance(node, ast.ImportFrom):
                names += [alias.name for alias in node.names]
                if imports_over:
                    self.tell("L2", name, node.lineno)
                continue
            if is_docstring(node):
                continue
            imports_over = True
            if isinstance(node, (ast.FunctionDef, ast.ClassDef)):
                names.append(node.name)
            elif isinstance(node, ast.Assign) and len(node.targets) == 1 and isinstance(node.targets[0], ast.Name):
                names.append(node.targets[0].id)
                if any(isinstance(part, (ast.Call, ast.comprehension)) for part in ast.walk(node.value)):
                    self.tell("L3", name, node.lineno)
                inner = [part for part in ast.walk(node.value) if part is not node.value]
                if any(isinstance(part, (ast.List, ast.Dict, ast.Set)) for part in inner):
                    self.tell("L15", name, node.lineno)
            else:
                self.tell("L3", name, node.lineno)
        if len(set(names)) != len(names):
            self.tell("L15", name, 0)

    def look_at_imports(self):
        ahead = {}
        for name, tree in self.trees.items():
            ahead[name] = []
            for node in ast.walk(tree):
                if isinstance(node, ast.Import):
                    self.tell("L2", name, node.lineno)
                elif isinstance(node, ast.ImportFrom):
                    self.look_at_import(name, node, ahead)
        left = dict(ahead)
        while any(not set(left[name]) & set(left) for name in left):
            left = {name: files for name, files in left.items() if set(files) & set(left)}
        for name in left:
            self.tell("L16", name, 0)

    def look_at_import(self, name, node, ahead):
        listed = {alias.name for alias in node.names}
        module = node.module or ""
        if module in LIBRARY:
            if not listed <= LIBRARY[module] or any(alias.asname for alias in node.names):
                self.tell("L2", name, node.lineno)
            return
        source = module.partition(".")[2] + ".py"
        if node.level or listed == {"*"} or module.partition(".")[0] != self.package or source not in self.trees:
            self.tell("L2", name, node.lineno)
            return
        ahead[name].append(source)
        defined = {part.name for part in self.trees[source].body if isinstance(part, (ast.FunctionDef, ast.ClassDef))}
        defined |= {part.targets[0].id for part in self.trees[source].body if isinstance(part, ast.Assign)}
        if not listed <= defined:
            self.tell("L16", name, node.lineno)

    def look_at_nodes(self, name, tree):
        parents = parents_of(tree)
        self.look_at_tables(name, tree, parents)
        files_names = {alias.name for node in tree.body if isinstance(node, ast.ImportFrom) for alias in node.names}
        files_names |= {node.name for node in tree.body if isinstance(node, ast.ClassDef)}
        docstrings = {id(node.value) for node in ast.walk(tree) if is_docstring(node)}
        for bound, line in bound_names(tree):
            self.look_at_name(name, bound, line)
        for node in ast.walk(tree):
            if isinstance(node, ast.stmt) and not isinstance(node, STATEMENTS):
                self.tell("L6", name, node.lineno)
            if isinstance(node, ast.FunctionDef):
                self.look_at_function(name, node, parents, files_names)
            elif isinstance(node, ast.ClassDef):
                self.look_at_class(name, node)
            elif isinstance(node, ast.Call):
                self.look_at_call(name, node, parents)
            elif isinstance(node, ast.Constant) and id(node) not in docstrings:
                self.look_at_constant(name, node)
            elif isinstance(node, ast.Name) and isinstance(node.ctx, ast.Load):
                if node.id in vars(builtins) and node.id not in BUILTINS | DECORATORS:
                    self.tell("L8", name, node.lineno)
            else:
                self.look_at_other(name, node, parents)

    def look_at_tables(self, name, tree, parents):
        """Lists and dicts at module level are read where they stand, and not passed on."""
        tables = {node.targets[0].id for tree in self.trees.values() for node in tree.body
                  if isinstance(node, ast.Assign) and isinstance(node.value, (ast.List, ast.Dict))}
        for node in ast.walk(tree):
            if isinstance(node, ast.Name) and isinstance(node.ctx, ast.Load) and node.id in tables:
                parent = parents[node]
                called = isinstance(parent, ast.Call) and node in parent.args and (
                    ast.unparse(parent.func) not in {"len", "sorted", "list", "dict", "tuple", "min", "max", "sum"})
                kept = isinstance(parent, (ast.Return, ast.Assign, ast.List, ast.Tuple, ast.Dict, ast.Starred))
                stored = isinstance(parent, ast.Subscript) and not isinstance(parent.ctx, ast.Load)
                if called or kept or stored:
                    self.tell("L15", name, node.lineno)

    def look_at_generators(self):
        """Generators yield in statements of their own, and are iterated where they are called."""
        functions = [(name, node) for name, tree in self.trees.items() for node in ast.walk(tree)
                     if isinstance(node, ast.FunctionDef)]
        generators = [(name, node) for name, node in functions
                      if any(isinstance(part, (ast.Yield, ast.YieldFrom)) for part in ast.walk(node))]
        names = {node.name for _, node in generators}
        for name, node in generators:
            parents = parents_of(node)
            if [other.name for _, other in functions].count(node.name) > 1 or node.name in METHODS | DOUBLE:
                self.tell("L23", name, node.lineno)
            for part in ast.walk(node):
                alone = not isinstance(part, (ast.Yield, ast.YieldFrom)) or isinstance(parents[part], ast.Expr)
                if not alone or isinstance(part, (ast.Try, ast.With)) or isinstance(part, ast.Return) and part.value:
                    self.tell("L23", name, part.lineno)
        for name, tree in self.trees.items():
            parents = parents_of(tree)
            for node in ast.walk(tree):
                told = node.id if isinstance(node, ast.Name) else node.attr if isinstance(node, ast.Attribute) else ""
                call = parents.get(node)
                if told in names and not (isinstance(call, ast.Call) and call.func is node
                                          and is_iterated(call, parents[call])):
                    self.tell("L23", name, node.lineno)

    def functions(self):
        return [(name, node) for name, tree in self.trees.items() for node in ast.walk(tree)
                if isinstance(node, ast.FunctionDef)]

    def classes(self):
        return [(name, node) for name, tree in self.trees.items() for node in ast.walk(tree)
                if isinstance(node, ast.ClassDef)]

    def look_at_names_of_both(self):
        """A name that is a method of one class and an attribute of another is not called in what operators run."""
        methods = [(name, item) for name, node in self.classes() for item in node.body
                   if isinstance(item, ast.FunctionDef) and not is_of_property(item)]
        stored = {part.attr for tree in self.trees.values() for part in ast.walk(tree)
                  if isinstance(part, ast.Attribute) and isinstance(part.ctx, ast.Store)}
        both = {item.name for _, item in methods} & stored
        for name, item in methods:
            if item.name in both and (item.decorator_list or is_generator(item)):
                self.tell("L18", name, item.lineno)
        for name, node in self.all_that_operators_run():
            for part in called_attributes(node):
                if part.attr in both:
                    self.tell("L18", name, part.lineno)
        # Where a name is both, no method is read off a class.
        own = {node.name for _, node in self.classes()}
        plain = {item.name for _, item in methods if not item.decorator_list}
        for name, tree in self.trees.items():
            for part in ast.walk(tree):
                if both and isinstance(part, ast.Attribute) and part.attr in plain and ast.unparse(part.value) in own:
                    self.tell("L18", name, part.lineno)

    def all_that_operators_run(self):
        """The operators, the properties, and all functions that may be run by them, judged by the names in them."""
        functions = self.functions()
        inits = {id(item): node.name for _, node in self.classes() for item in node.body
                 if isinstance(item, ast.FunctionDef) and item.name == "__init__"}
        run = [(name, node) for name, node in functions
               if node.name in DOUBLE - NO_OPERATORS or is_of_property(node)]
        for _, node in run:
            named = self.named_in(node)
            run += [pair for pair in functions if inits.get(id(pair[1]), pair[1].name) in named and pair not in run]
        return run

    def named_in(self, node):
        """All names in a function, and what they stand for in tables and imports."""
        named = {part.id if isinstance(part, ast.Name) else part.attr for part in ast.walk(node)
                 if isinstance(part, (ast.Name, ast.Attribute))}
        if any(isinstance(part, ast.With) for part in ast.walk(node)):
            named |= {"__enter__", "__exit__"}
        named |= {alias.name for tree in self.trees.values() for part in tree.body if isinstance(part, ast.ImportFrom)
                  for alias in part.names if alias.asname in named}
        return named | {part.id for tree in self.trees.values() for row in tree.body if isinstance(row, ast.Assign)
                        and row.targets[0].id in named for part in ast.walk(row.value) if isinstance(part, ast.Name)}

    def look_at_what_operators_run(self):
        """Operators, properties and all that they call change nothing but lists that they made themselves."""
        functions = self.functions()
        run = [(name, node) for name, node in functions
               if node.name in OPERATORS or "property" in decorators_of(node)]
        for name, node in run:
            called = called_names(node) - METHODS
            run += [pair for pair in functions if pair[1].name in called and pair not in run]
        for name, node in run:
            made = {part.targets[0].id for part in ast.walk(node) if isinstance(part, ast.Assign)
                    and isinstance(part.targets[0], ast.Name) and is_own_list(part.value)}
            for part in ast.walk(node):
                stored = isinstance(part, (ast.Attribute, ast.Subscript)) and not isinstance(part.ctx, ast.Load)
                changed = (isinstance(part, ast.Call) and isinstance(part.func, ast.Attribute)
                           and part.func.attr in CHANGING and ast.unparse(part.func.value) not in made)
                if stored or changed:
                    self.tell("L5", name, part.lineno)

    def look_at_name(self, name, bound, line):
        if not PLAIN_NAME.fullmatch(bound) and bound not in DOUBLE:
            self.tell("L12", name, line)
        if bound in vars(builtins):
            self.tell("L15", name, line)
        if bound in NEVER | NO_NAMES | NO_WORDS:
            self.tell("L17", name, line)

    def look_at_function(self, name, node, parents, files_names):
        first = min([node.lineno] + [part.lineno for part in node.decorator_list])
        if node.end_lineno - first + 1 > 40:
            self.tell("L10", name, node.lineno)
        in_class = isinstance(parents[node], ast.ClassDef)
        for part in node.decorator_list:
            told = ast.unparse(part)
            if not in_class or not (told in DECORATORS or told.endswith(".setter")):
                self.tell("L4", name, part.lineno)
        if node.name.startswith("__") and (node.name not in DOUBLE or not in_class):
            self.tell("L5", name, node.lineno)
        told = [ast.unparse(part.value) for part in ast.walk(node) if isinstance(part, ast.Return) and part.value]
        if node.name == "__len__" and not all(text.startswith("len(") or text.isdigit() for text in told):
            self.tell("L28", name, node.lineno)
        if node.name in OPERATORS and any(
                isinstance(part, (ast.Attribute, ast.Subscript)) and not isinstance(part.ctx, ast.Load)
                for part in ast.walk(node)):
            self.tell("L5", name, node.lineno)
        if node.name == "__exit__":
            self.look_at_exit(name, node)
        for default in node.args.defaults + [part for part in node.args.kw_defaults if part]:
            if any(isinstance(part, (ast.List, ast.Dict, ast.Set, ast.Call)) for part in ast.walk(default)):
                self.tell("L4", name, node.lineno)
        local = {bound for bound, _ in bound_names(node)} - {node.name}
        if local & files_names:
            self.tell("L15", name, node.lineno)

    def look_at_exit(self, name, node):
        """The rows of an __exit__ are few, and ask of what it is told only whether kind is None."""
        told = [part.arg for part in node.args.args[1:]] + [part.arg for part in [node.args.vararg] if part]
        kind = told[0] if node.args.args[1:] else None
        reads = [part for row in node.body for part in ast.walk(row) if isinstance(part, ast.Name) and part.id in told]
        asked = [part.left for row in node.body for part in ast.walk(row) if isinstance(part, ast.Compare)]
        if not all(part in asked and part.id == kind for part in reads):
            self.tell("L6", name, node.lineno)
        for row in node.body:
            if not is_exit_row(row, kind, self.bare):
                self.tell("L6", name, row.lineno)

    def look_at_class(self, name, node):
        if node.decorator_list or node.keywords:
            self.tell("L5", name, node.lineno)
        methods = [item for item in node.body if isinstance(item, ast.FunctionDef)]
        plain = [item.name for item in methods if not item.decorator_list]
        if len(set(plain)) != len(plain):
            self.tell("L18", name, node.lineno)
        if "__getitem__" in plain and "__iter__" not in plain:
            self.tell("L5", name, node.lineno)
        stored = {part.attr for part in ast.walk(node) if isinstance(part, ast.Attribute)
                  and isinstance(part.ctx, ast.Store)}
        if stored & {item.name for item in methods}:
            self.tell("L18", name, node.lineno)
        for item in node.body:
            if not isinstance(item, (ast.FunctionDef, ast.Assign)) and not is_docstring(item):
                self.tell("L5", name, item.lineno)

    def look_at_call(self, name, node, parents):
        line = node.lineno
        if isinstance(node.func, ast.Attribute):
            if node.func.attr not in METHODS and node.func.attr not in self.own_methods:
                self.tell("L25", name, line)
            elif node.func.attr not in self.own_methods and node.keywords:
                self.tell("L25", name, line)
            return
        called = node.func.id if isinstance(node.func, ast.Name) else ""
        if called in ("sorted", "min", "max") and not is_plainly_ordered(node):
            self.tell("L5", name, line)
        if called == "reversed" and not ast.unparse(node.args[0]).startswith(("range(", "list(", "sorted(", "tuple(")):
            self.tell("L5", name, line)
        if called == "set" and isinstance(parents[node], ast.Assign):
            self.tell("L24", name, line)
        allowed = {"sorted": {"key", "reverse"}, "min": {"key", "default"}, "max": {"key", "default"},
                   "sum": {"start"}, "enumerate": {"start"}, "zip": {"strict"}}
        if called in BUILTINS and not {part.arg for part in node.keywords} <= allowed.get(called, set()):
            self.tell("L22", name, line)
        parent = parents[node]
        if called in ON_THE_SPOT and isinstance(parent, (ast.Assign, ast.Return, ast.Dict, ast.List, ast.Tuple,
                                                         ast.Subscript, ast.Attribute)):
            self.tell("L23", name, line)
        if called == "set" and isinstance(parent, (ast.Return, ast.For, ast.comprehension, ast.Dict, ast.List,
                                                   ast.Tuple, ast.Subscript, ast.Attribute)):
            self.tell("L24", name, line)
        # The package has classes with == and len.
        if called in ("all", "any", "min", "max", "sum", "sorted") and any(isinstance(part, ast.GeneratorExp)
                                                                           for part in node.args):
            self.tell("L7", name, line)

    def look_at_constant(self, name, node):
        if isinstance(node.value, (float, complex)):
            self.tell("L7", name, node.lineno)
        if isinstance(node.value, str):
            if chr(37) in node.value or node.value.endswith(("._", ".__")):
                self.tell("L27", name, node.lineno)
            if set(re.findall(r"[A-Za-z_]+", node.value)) & (NO_WORDS - {"type"} | NEVER):
                self.tell("L17", name, node.lineno)

    def look_at_other(self, name, node, parents):
        line = getattr(node, "lineno", 0)
        if isinstance(node, ast.Compare):
            for sign, right in zip(node.ops, node.comparators):
                if isinstance(sign, (ast.Is, ast.IsNot)) and not isinstance(right, ast.Constant):
                    self.tell("L20", name, line)
        elif isinstance(node, ast.Attribute):
            if node.attr in NEVER or node.attr.startswith("__"):
                self.tell("L17", name, line)
        elif isinstance(node, ast.BinOp):
            if isinstance(node.op, (ast.Div, ast.MatMult)):
                self.tell("L7", name, line)
            if isinstance(node.op, ast.Pow) and not isinstance(node.right, ast.Constant):
                self.tell("L27", name, line)
        elif isinstance(node, ast.ExceptHandler):
            self.look_at_handler(name, node)
        elif isinstance(node, ast.Raise):
            if node.exc is not None and not (isinstance(node.exc, ast.Call) and isinstance(node.exc.func, ast.Name)):
                self.tell("L19", name, line)
        elif isinstance(node, (ast.Global, ast.AsyncFor, ast.AsyncWith, ast.Await, ast.AsyncFunctionDef)):
            self.tell("L6", name, line)
        elif isinstance(node, ast.AnnAssign) or getattr(node, "annotation", None) or getattr(node, "returns", None):
            self.tell("L21", name, line)
        elif isinstance(node, ast.GeneratorExp) and not isinstance(parents[node], ast.Call):
            self.tell("L7", name, line)

    def look_at_handler(self, name, node):
        if node.type is None:
            self.tell("L6", name, node.lineno)
            return
        caught = node.type.elts if isinstance(node.type, ast.Tuple) else [node.type]
        for part in caught:
            if ast.unparse(part) not in CATCHABLE | self.own_errors:
                self.tell("L19", name, node.lineno)


MODULES = """errors rules walks falling store rings chains given joins live cells compared keepings losses mends sessions
consoles notes orders packs""".split()
LONG = "def f(k):\n" + "    k += 1\n" * 40
EXIT = "class C:\n    def __exit__(self, kind, value, trace):\n"
LENGTH = "class D:\n    def __len__(self):\n        return 1\n"
EQUAL = "class D:\n    def __eq__(self, n):\n        return True\n"
# A name that is a method of one class and an attribute of another one, and a function that calls it.
METHOD = "class C:\n    def k(self):\n        return 1\n"
ATTRIBUTE = "class D:\n    def __init__(self):\n        self.k = 1\n"
CALLING = "def h(n):\n    return n.k()\n"
BAD = [
    ("L1", "Odd.py", ""), ("L2", "a.py", "import os\n"), ("L2", "a.py", "import packedbases.b\n"),
    ("L2", "a.py", "from os import path\n"), ("L2", "a.py", "from math import floor\n"),
    ("L2", "a.py", "from .b import g\n"), ("L2", "a.py", "from packedbases.b import *\n"),
    ("L2", "a.py", "K = 1\nfrom packedbases.b import g\n"), ("L16", "a.py", "from packedbases.b import h\n"),
    ("L16", "a.py", "from packedbases.a import f\ndef f():\n    pass\n"),
    ("L3", "a.py", "K = len([1])\n"), ("L3", "a.py", "K = L = 1\n"), ("L3", "a.py", "for k in (1, 2):\n    pass\n"),
    ("L3", "a.py", "K = [k for k in (1, 2)]\n"), ("L15", "a.py", "K = {1: [2]}\n"), ("L15", "a.py", "K = 1\nK = 2\n"),
    ("L4", "a.py", "def f(k):\n    return k\n@f\ndef h(k):\n    return k\n"),
    ("L4", "a.py", "def f(k=[]):\n    pass\n"),
    ("L5", "a.py", "class C:\n    def __hash__(self):\n        return 1\n"),
    ("L5", "a.py", "class C:\n    if True:\n        pass\n"), ("L5", "a.py", "def __len__(k):\n    return len(k)\n"),
    ("L6", "a.py", "def f():\n    global K\n"), ("L6", "a.py", "async def f():\n    pass\n"),
    ("L6", "a.py", "def f():\n    try:\n        pass\n    except:\n        pass\n"),
    ("L7", "a.py", "def f(k):\n    return k / 2\n"), ("L7", "a.py", "K = 1.5\n"),
    ("L7", "a.py", "def f(k):\n    return all(n for n in k)\n"), ("L8", "a.py", "def f(k):\n    return hash(k)\n"),
    ("L8", "a.py", "def f(k):\n    print(k)\n"), ("L8", "a.py", "def f(k):\n    return chr(k)\n"),
    ("L10", "a.py", LONG), ("L10", "a.py", "#\n" * 400), ("L10", "a.py", "# " + "a" * 119 + "\n"),
    ("L12", "a.py", "def f(k__, __k):\n    pass\n"), ("L14", "a.py", "# \u00e9\n"),
    ("L14", "a.py", "def f():\n\tpass\n"),
    ("L15", "a.py", "def f(id):\n    pass\n"), ("L15", "a.py", "def f(k):\n    round = k\n"),
    ("L15", "a.py", "from packedbases.b import g\ndef f(g):\n    pass\n"),
    ("L17", "a.py", "def f(register):\n    pass\n"), ("L17", "a.py", "def f(k):\n    return k.__class__\n"),
    ("L17", "a.py", "K = \"an enum\"\n"), ("L18", "a.py", "class C:\n    def k(self):\n        self.k = 1\n"),
    ("L18", "a.py", "class C:\n    def k(self):\n        pass\n    def k(self):\n        pass\n"),
    ("L19", "a.py", "def f(k):\n    raise k\n"),
    ("L19", "a.py", "def f():\n    try:\n        pass\n    except TypeError:\n        pass\n"),
    ("L20", "a.py", "def f(k, n):\n    return k is n\n"), ("L21", "a.py", "def f(k: int):\n    pass\n"),
    ("L22", "a.py", "def f(k):\n    return int(k, base=3)\n"), ("L23", "a.py", "def f(k):\n    return range(k)\n"),
    ("L23", "a.py", "def f(k):\n    yield k\ndef h(k):\n    return f(k)\n"),
    ("L23", "a.py", "def f(k):\n    yield k\ndef h(k):\n    return sorted(f(k), key=str)\n"),
    ("L23", "a.py", "def f(k):\n    yield k\nclass C:\n    def f(self):\n        pass\n"),
    ("L23", "a.py", "def f(k):\n    n = yield k\n"), ("L23", "a.py", "def f(k):\n    yield k\n    return k\n"),
    ("L23", "a.py", "def items(k):\n    yield k\n"), ("L23", "a.py", "def f(k):\n    with k:\n        yield k\n"),
    ("L5", "a.py", "def f(k):\n    k.append(1)\nclass C:\n    def __contains__(self, n):\n        return f(n)\n"),
    ("L5", "a.py", "def f(k):\n    n = {}\n    n[k] = 1\nclass C:\n    def __add__(self, n):\n        return f(n)\n"),
    ("L24", "a.py", "def f(k):\n    for n in set(k):\n        pass\n"),
    ("L25", "a.py", "def f(k):\n    return k.format(1)\n"), ("L25", "a.py", "def f(k):\n    k.sort(key=len)\n"),
    ("L5", "a.py", "def f(k):\n    return sorted(k)\n"), ("L5", "a.py", "def f(k, n):\n    return min(k, n)\n"),
    ("L5", "a.py", "def f(k):\n    return max(k, key=f)\n"), ("L5", "a.py", "def f(k):\n    return list(reversed(k))\n"),
    ("L5", "a.py", "class C:\n    def __getitem__(self, at):\n        return at\n"),
    ("L5", "a.py", "class C:\n    def __contains__(self, at):\n        self.n = at\n        return True\n"),
    ("L6", "a.py", "class C:\n    def __exit__(self, kind, value, trace):\n        self.n = f(1)\n"),
    ("L6", "a.py", EXIT + "        if not self.n:\n            self.m = self.n\n" + LENGTH),
    ("L6", "a.py", EXIT + "        if self.n:\n            self.m = self.n\n" + EQUAL),
    ("L6", "a.py", EXIT + "        if kind is None and self.n:\n            self.m = self.n\n" + LENGTH),
    ("L6", "a.py", EXIT + "        if self.n == 1:\n            self.m = self.n\n" + LENGTH),
    ("L6", "a.py", EXIT + "        if self.n is False:\n            self.m = self.n\n"),
    ("L6", "a.py", EXIT + "        if self.f():\n            self.m = self.n\n"),
    ("L6", "a.py", EXIT + "        if self.n is None:\n            self.m = self.f()\n"),
    ("L6", "a.py", EXIT + "        if not kind:\n            self.m = self.n\n"),
    ("L6", "a.py", EXIT + "        if value is None:\n            self.m = self.n\n"),
    ("L6", "a.py", EXIT + "        self.m = kind\n"), ("L6", "a.py", EXIT + "        return True\n"),
    ("L6", "a.py", EXIT + "        self.m = self.n[0]\n"), ("L6", "a.py", EXIT + "        m = self.n\n"),
    ("L6", "a.py", "class C:\n    def __exit__(self, *told):\n        self.m = told\n"),
    ("L18", "a.py", METHOD + ATTRIBUTE + "    def __eq__(self, n):\n        return n.k() == 1\n"),
    ("L18", "a.py", METHOD + ATTRIBUTE + "    def __len__(self):\n        return len(h(self))\n" + CALLING),
    ("L18", "a.py", METHOD + ATTRIBUTE + "    def __le__(self, n):\n        return self.n(n)\n"
     "    def n(self, m):\n        return h(m)\n" + CALLING),
    ("L18", "a.py", METHOD + ATTRIBUTE + "    @property\n    def n(self):\n        return h(self)\n" + CALLING),
    ("L18", "a.py", METHOD + ATTRIBUTE + "    def __setitem__(self, at, n):\n        self.m = n.k()\n"),
    ("L18", "a.py", METHOD + ATTRIBUTE + "    def __or__(self, n):\n        return E(n)\n"
     "class E:\n    def __init__(self, n):\n        self.n = h(n)\n" + CALLING),
    ("L18", "a.py", METHOD + ATTRIBUTE + "    def __and__(self, n):\n        return max(n, key=self.m.k)\n"),
    ("L18", "a.py", CALLING + "K = {1: h}\n" + METHOD + ATTRIBUTE + "    def __add__(self, n):\n        f = K[n]\n"
     "        return f(n)\n"),
    ("L18", "a.py", "from packedbases.d import h as f\n" + METHOD + ATTRIBUTE + "    def __add__(self, n):\n"
     "        return f(n)\n"),
    ("L18", "a.py", METHOD + ATTRIBUTE + "    def __add__(self, n):\n        with E() as m:\n            return m\n"
     "class E:\n    def __enter__(self):\n        return h(self)\n" + CALLING),
    ("L18", "a.py", "from packedbases.c import C\n" + ATTRIBUTE + "    def __contains__(self, n):\n"
     "        return C().k() == n\n"),
    ("L18", "a.py", METHOD + ATTRIBUTE + "def f(n):\n    return C.k(n)\n"),
    ("L18", "a.py", "class C:\n    @staticmethod\n    def k():\n        return 1\n" + ATTRIBUTE),
    ("L18", "a.py", "class C:\n    def k(self):\n        yield 1\n" + ATTRIBUTE),
    ("L15", "a.py", "K = {1: 2}\ndef f():\n    return f(K)\n"), ("L15", "a.py", "K = [1]\ndef f():\n    return K\n"),
    ("L15", "a.py", "K = {1: 2}\ndef f():\n    K[1] = 3\n"), ("L24", "a.py", "def f():\n    k = set()\n"),
    ("L27", "a.py", "K = \"5%\"\n"), ("L27", "a.py", "def f(k):\n    return 2 ** k\n"),
    ("L28", "a.py", "class C:\n    def __len__(self):\n        return self.n\n"),
]
FINE = """\"\"\"A docstring.\"\"\"

from math import gcd

from packedbases.b import g

K = {"a": (1, 2)}


class C:
    def __init__(self):
        self.n = [gcd(4, 6), g(2)]

    @property
    def many(self):
        return len(self.n)

    def __len__(self):
        return len(self.n)


def f(k, *, most=-1):
    rows = sorted([n for n in k], key=str)
    rows.append(max([len(n) for n in rows]) + min(3, most) + len(K) + K["a"][0])
    for at, _ in enumerate(rows):
        if len(set(rows)) == at or k is None:
            raise ValueError("too many")
    return all([n != most for n in rows])


def told(k):
    for n in k:
        yield n


def h(k):
    rows = list(told(k))
    return [n for n in told(k) if n in rows]
"""


class LanguageTest(unittest.TestCase):
    def test_the_folder_contains_only_python_files(self):
        names = [path.name for path in PACKAGE.iterdir() if path.name != "__pycache__"]
        self.assertTrue(all(name.endswith(".py") for name in names), names)
        self.assertIn("__init__.py", names)

    def test_the_files_keep_to_the_subset(self):
        texts = {path.name: path.read_text(encoding="utf-8") for path in PACKAGE.glob("*.py")}
        self.assertGreaterEqual(set(texts), {f"{name}.py" for name in MODULES})
        self.assertEqual(Look(texts).found, [])

    def test_the_script_finds_each_fault(self):
        helpers = {"b.py": "def g(k):\n    return k\n", "c.py": METHOD, "d.py": CALLING}
        for rule, name, text in BAD:
            found = Look({name: text, **helpers}).found
            self.assertIn(rule, [told for told, _, _ in found], text)

    def test_the_script_finds_files_that_import_from_each_other(self):
        one = "from packedbases.b import g\ndef f(k):\n    return g(k)\n"
        other = "from packedbases.a import f\ndef g(k):\n    return f(k)\n"
        self.assertIn("L16", [told for told, _, _ in Look({"a.py": one, "b.py": other}).found])

    def test_the_script_finds_nothing_in_good_code(self):
        self.assertEqual(Look({"a.py": FINE, "b.py": "def g(k):\n    return k\n"}).found, [])

    def test_the_script_finds_nothing_in_names_that_are_both_beside_operators(self):
        beside = METHOD + ATTRIBUTE + "    def __len__(self):\n        return len([self.k])\n" + CALLING
        self.assertEqual(Look({"a.py": beside}).found, [])

    def test_the_script_finds_nothing_in_good_exits(self):
        asked = "        if kind is None and not (self.n is None or self.m is not None):\n            self.m = [self.n]\n"
        alone = "        if self.n or not self.m == 2:\n            self.m = self.n + 1\n            return False\n"
        kept = "        self.n = self.m.n\n"
        for rows, beside in ((asked, LENGTH), (alone, ""), ("        pass\n", ""), (kept, EQUAL)):
            self.assertEqual(Look({"a.py": EXIT + rows + beside}).found, [])


if __name__ == "__main__":
    unittest.main()
