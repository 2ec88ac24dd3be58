"""Asks of the files of the package what can be told mechanically of the rules of LANGUAGE.md.

Somewhat narrower than the rules where that is simpler: no annotation, no generator expression, no stored set,
and += and -= with literal integers alone.
"""

import ast
import builtins
import io
import os
import re
import tokenize
import warnings

BUILTINS = set(
    "len range enumerate zip min max sum abs sorted reversed int str bool list tuple dict set isinstance ord repr any"
    " all divmod Exception ValueError TypeError KeyError IndexError LookupError ZeroDivisionError AttributeError"
    " NotImplemented StopIteration super map iter next".split()
)
LIBRARY = {
    "heapq": {"heappush", "heappop", "heapify", "heapreplace", "heappushpop"},
    "math": {"gcd", "lcm", "isqrt", "comb", "perm", "factorial"},
    "itertools": {"product", "combinations", "permutations", "chain", "accumulate", "pairwise", "islice", "zip_longest"},
    "collections": {"defaultdict"},
}
METHODS = set(
    "append clear copy count endswith extend find get index insert isalnum isalpha isdigit islower isspace isupper"
    " items join keys ljust lower lstrip partition pop remove replace reverse rfind rjust rpartition rsplit rstrip"
    " setdefault split splitlines startswith strip update upper values zfill bit_length title capitalize swapcase"
    " casefold center expandtabs removeprefix removesuffix rindex isascii isdecimal isnumeric istitle isidentifier"
    " isprintable translate".split()
)
DUNDERS = set(
    "__init__ __eq__ __repr__ __str__ __len__ __enter__ __exit__ __call__ __iter__ __lt__ __le__ __gt__ __ge__ __ne__"
    " __neg__ __pos__ __invert__ __abs__ __bool__ __contains__ __getitem__ __setitem__".split()
) | {
    f"__{side}{word}__" for side in ("", "r", "i")
    for word in "add sub mul floordiv mod pow and or xor lshift rshift".split()
} - {"__rpow__"}
NOT_USED = set(
    "register mro elements open input law version_info with_traceback add_note attrgetter breakpoint builtins compile"
    " copyright credits delattr dir eval exec exit gc globals help id importlib license locals methodcaller os quit"
    " vars hash object float frozenset filter format round print bytes chr pow getattr hasattr setattr callable"
    " complex bytearray memoryview slice sys".split()
)
BARRED_WORDS = (
    r"\b(type|typing|typing_extensions|enum|Enum|IntEnum|StrEnum|Flag|IntFlag|Generic|Protocol|ABC|ABCMeta|namedtuple"
    r"|NamedTuple|TypedDict|TYPE_CHECKING|abstractmethod)\b|dataclass|overload|contextmanager|_wall\b|_WallAttr"
)
BARRED_NAMES = r"^(_wall|_pe_|_dcw_|_enum_|_cm_|_twin_re_|_lay_|_law_|_stub_|_sre|_WallAttr|_cold|_outside|_record)"
ON_THE_SPOT = {"zip", "enumerate", "reversed", "range", "map"}
VIEWS = {"items", "keys", "values"}
TAKES_ITERABLE = {"list", "tuple", "dict", "sorted", "sum", "any", "all", "enumerate", "zip", "min", "max"}


class Sources:
    """The parsed files of a package."""

    def __init__(self, folder):
        self.folder = folder
        self.package = os.path.basename(folder)
        self.texts = {}
        for name in sorted(os.listdir(folder)):
            if name != "__pycache__":
                with open(os.path.join(folder, name), encoding="utf-8", newline="") as file:
                    self.texts[name] = file.read()
        self.trees = {name: ast.parse(text) for name, text in self.texts.items()}
        for tree in self.trees.values():
            for node in ast.walk(tree):
                for child in ast.iter_child_nodes(node):
                    child.parent = node
        nodes = [node for tree in self.trees.values() for node in ast.walk(tree)]
        self.classes = {node.name: node for node in nodes if isinstance(node, ast.ClassDef)}
        self.functions = [node for node in nodes if isinstance(node, ast.FunctionDef)]
        self.generators = {node.name for node in self.functions if yields(node)}
        self.methods = {
            node.name for node in self.functions if isinstance(node.parent, ast.ClassDef) and not is_property(node)
        }
        self.properties = {node.name for node in self.functions if is_property(node)}
        self.unset = {
            row.name for node in self.classes.values() for row in node.body
            if isinstance(row, ast.FunctionDef) and is_property(row) and not has_setter(node, row.name)
        }
        self.class_values = {
            target.id for node in self.classes.values() for row in node.body if isinstance(row, ast.Assign)
            for target in row.targets
        }
        self.attributes = {
            node.attr for node in nodes if isinstance(node, ast.Attribute) and isinstance(node.ctx, ast.Store)
        }
        self.settable = {
            row.name for node in self.classes.values() for row in node.body
            if isinstance(row, ast.FunctionDef) and has_setter(node, row.name)
        }
        self.getters = [node for node in self.functions if is_getter(node)]
        self.named = {}
        for node in self.functions:
            if not is_property(node):
                self.named.setdefault(node.name, []).append(node)
        self.fetching = {}
        for node in self.getters:
            self.fetching.setdefault(node.name, []).append(node)

    def makings(self, name):
        """The __init__ that runs when an object of a class is made, in a list."""
        node = self.classes[name]
        for row in node.body:
            if isinstance(row, ast.FunctionDef) and row.name == "__init__":
                return [row]
        bases = [base.id for base in node.bases if base.id in self.classes]
        return [making for base in bases for making in self.makings(base)][:1]


def yields(function):
    return any(isinstance(node, (ast.Yield, ast.YieldFrom)) for node in ast.walk(function))


def is_property(function):
    return any(
        isinstance(one, ast.Name) and one.id == "property" or isinstance(one, ast.Attribute) and one.attr == "setter"
        for one in function.decorator_list
    )


def is_getter(function):
    return any(isinstance(one, ast.Name) and one.id == "property" for one in function.decorator_list)


def has_setter(node, name):
    """Whether a class has a setter for its property of this name."""
    return any(
        isinstance(row, ast.FunctionDef) and row.name == name
        and any(isinstance(one, ast.Attribute) and one.attr == "setter" for one in row.decorator_list)
        for row in node.body
    )


def faults(folder):
    """All faults found, as texts."""
    sources = Sources(folder)
    found = []
    for name, text in sources.texts.items():
        tell = lambda rule, line, why, name=name: found.append(f"{rule} {name}:{line} {why}")
        check_text(name, text, tell)
        check_imports(sources, sources.trees[name], tell)
        check_level(sources.trees[name], tell)
        check_bindings(sources.trees[name], tell)
        for node in ast.walk(sources.trees[name]):
            for check in (check_node, check_name, check_call, check_function, check_class, check_error, check_loop):
                check(sources, node, tell)
    for name, line, why in changes(sources):
        found.append(f"L5 {name}:{line} {why}")
    check_families(sources, lambda rule, line, why: found.append(f"{rule} {why}"))
    check_cycles(sources, lambda rule, line, why: found.append(f"{rule} {why}"))
    return found


def check_text(name, text, tell):
    if not re.fullmatch(r"[a-z0-9_]+\.py", name):
        tell("L1", 0, "name of the file")
    lines = text.split("\n")
    if len(lines) > 400 or not text.endswith("\n"):
        tell("L10", len(lines), "length of the file")
    for at, line in enumerate(lines, 1):
        if len(line) > 120 or any(not " " <= sign <= "~" for sign in line):
            tell("L10/L14", at, "length or characters of the line")
    with warnings.catch_warnings(record=True) as told:
        warnings.simplefilter("always")
        compile(text, name, "exec")
    for one in told:
        tell("L27", one.lineno, str(one.message))
    for token in tokenize.generate_tokens(io.StringIO(text).readline):
        if token.type == tokenize.STRING:
            if re.search(r"\\[^nt\\'\"]", token.string) or "%" in token.string:
                tell("L27", token.start[0], "escape or sign in a string")
            if not token.string.startswith('"""') and re.search(BARRED_WORDS, token.string):
                tell("L17", token.start[0], "barred word in a string")
        if token.type == tokenize.NAME and re.search(BARRED_WORDS, token.string):
            tell("L17", token.start[0], f"barred word {token.string}")


def check_imports(sources, tree, tell):
    for node in ast.walk(tree):
        if isinstance(node, ast.Import) or isinstance(node, ast.ImportFrom) and (
            node.level or node not in tree.body or any(one.asname or one.name == "*" for one in node.names)
        ):
            tell("L2", node.lineno, "form of the import")
        elif isinstance(node, ast.ImportFrom):
            if node.module in LIBRARY:
                missing = {one.name for one in node.names} - LIBRARY[node.module]
            else:
                package, _, module = node.module.partition(".")
                body = sources.trees[module + ".py"].body if package == sources.package else []
                names = {row.name for row in body if isinstance(row, (ast.FunctionDef, ast.ClassDef))}
                names |= {target.id for row in body if isinstance(row, ast.Assign) for target in row.targets}
                missing = {one.name for one in node.names} - names
            used = {one.id for one in ast.walk(tree) if isinstance(one, ast.Name)}
            for name in sorted(missing | {one.name for one in node.names} - used):
                tell("L16", node.lineno, f"{name} is not defined there, or not used here")


def check_cycles(sources, tell):
    needs = {
        name[:-3]: [
            row.module.partition(".")[2] for row in tree.body
            if isinstance(row, ast.ImportFrom) and row.module.startswith(sources.package)
        ]
        for name, tree in sources.trees.items()
    }
    while needs:
        free = [name for name in needs if not any(other in needs for other in needs[name])]
        if not free:
            tell("L16", 0, f"imports in a circle: {sorted(needs)}")
            return
        for name in free:
            del needs[name]


def check_level(tree, tell):
    bound = [one.name for row in tree.body if isinstance(row, ast.ImportFrom) for one in row.names]
    for at, row in enumerate(tree.body):
        if isinstance(row, (ast.FunctionDef, ast.ClassDef)):
            bound.append(row.name)
        elif isinstance(row, ast.Assign) and len(row.targets) == 1 and isinstance(row.targets[0], ast.Name):
            bound.append(row.targets[0].id)
            if re.search(r"^[\[{(].*[\[{]", ast.unparse(row.value)):
                tell("L15", row.lineno, "list or dict within a table")
            try:
                ast.literal_eval(row.value)
            except ValueError:
                tell("L3", row.lineno, "value at module level")
        elif not isinstance(row, ast.ImportFrom) and not (at == 0 and is_docstring(row)):
            tell("L3", row.lineno, "statement at module level")
    for name in sorted({name for name in bound if bound.count(name) > 1}):
        tell("L15", 0, f"{name} is bound twice")


def is_docstring(row):
    return isinstance(row, ast.Expr) and isinstance(row.value, ast.Constant) and isinstance(row.value.value, str)


def check_bindings(tree, tell):
    taken = {one.name for row in tree.body if isinstance(row, ast.ImportFrom) for one in row.names}
    taken |= {row.name for row in tree.body if isinstance(row, ast.ClassDef)}
    # A parameter may have the name of a function of its file: the interface of the pace asks for one.
    functions = {row.name for row in tree.body if isinstance(row, ast.FunctionDef)}
    for node in ast.walk(tree):
        name = node.arg if isinstance(node, ast.arg) else None
        if isinstance(node, ast.Name) and isinstance(node.ctx, ast.Store):
            name = node.id
        if name in taken or name in functions and not isinstance(node, ast.arg):
            tell("L15", node.lineno, f"{name} has the name of something of the file")


def check_node(sources, node, tell):
    line = getattr(node, "lineno", 0)
    barred = (ast.Global, ast.AsyncFunctionDef, ast.AsyncFor, ast.AsyncWith, ast.Await, ast.GeneratorExp, ast.AnnAssign)
    if isinstance(node, barred) or isinstance(node, (ast.Div, ast.MatMult)):
        tell("L6/L7", line, f"{node.__class__.__name__}")
    if isinstance(node, ast.Constant) and isinstance(node.value, (float, complex, bytes)):
        tell("L7", line, "kind of number")
    if isinstance(node, ast.AugAssign) and not (
        isinstance(node.op, (ast.Add, ast.Sub)) and isinstance(node.target, ast.Name)
        and isinstance(node.value, ast.Constant) and isinstance(node.value.value, int)
    ):
        tell("L5", line, "+= of more than a literal")
    if isinstance(node, ast.Compare):
        for sign, side in zip(node.ops, node.comparators):
            if isinstance(sign, (ast.Is, ast.IsNot)) and not (
                isinstance(side, ast.Constant) and side.value in (None, True, False)
            ):
                tell("L20", line, "is")
    if isinstance(node, ast.JoinedStr) and "__" in ast.unparse(node):
        tell("L27", line, "underscores in a string with a brace")
    if isinstance(node, (ast.Set, ast.SetComp)) or called(node) == "set":
        if called(node.parent) not in ("sorted", "len") and not isinstance(node.parent, ast.Compare):
            tell("L24", line, "a set")
    if isinstance(node, ast.BinOp) and isinstance(node.op, ast.Pow) and not isinstance(node.right, ast.Constant):
        tell("L27", line, "exponent")


def called(node):
    """The bare name that a node calls."""
    return node.func.id if isinstance(node, ast.Call) and isinstance(node.func, ast.Name) else None


def check_name(sources, node, tell):
    line = getattr(node, "lineno", 0)
    names = []
    if isinstance(node, ast.Name):
        names = [node.id]
        outside = node.id not in BUILTINS and node.id in dir(builtins)
        if outside and node.id not in ("property", "staticmethod", "classmethod"):
            tell("L8", line, f"builtin {node.id}")
        if isinstance(node.ctx, ast.Store) and node.id in BUILTINS | NOT_USED:
            tell("L8", line, f"{node.id} is bound")
        if node.id == "_" and isinstance(node.ctx, ast.Load):
            tell("L12", line, "_ is read")
    elif isinstance(node, ast.arg):
        names = [node.arg]
        if node.arg in BUILTINS | NOT_USED or node.annotation is not None:
            tell("L8/L21", line, f"parameter {node.arg}")
    elif isinstance(node, (ast.FunctionDef, ast.ClassDef)):
        names = [node.name]
        if node.name in BUILTINS | NOT_USED:
            tell("L8", line, f"{node.name} is defined")
    elif isinstance(node, ast.Attribute) and not is_name_of_class(node):
        names = [node.attr]
        if isinstance(node.ctx, ast.Store) and node.attr in sources.unset:
            tell("L5", line, f"a property that is given has a setter: {node.attr}")
        own = sources.attributes | sources.methods | sources.properties | sources.class_values
        if node.attr not in own | METHODS | {"setter"}:
            tell("L18", line, f"attribute {node.attr}")
    for name in names:
        if name.startswith("__") and name not in DUNDERS or re.search(BARRED_NAMES, name) or name in ("open", "input"):
            tell("L12", line, f"name {name}")


def check_loop(sources, node, tell):
    """What a loop or a comprehension goes over is not changed in it."""
    if isinstance(node, ast.For):
        heads, rows = [node.iter], node.body + node.orelse
    elif isinstance(node, (ast.ListComp, ast.DictComp, ast.SetComp)):
        heads, rows = [one.iter for one in node.generators], [node]
    else:
        return
    gone_over = {ast.unparse(one) for head in heads for one in sources_of(head)}
    for row in rows:
        for one in ast.walk(row):
            changed = None
            if isinstance(one, ast.Subscript) and isinstance(one.ctx, (ast.Store, ast.Del)):
                changed = one.value
            elif isinstance(one, ast.Call) and isinstance(one.func, ast.Attribute) and one.func.attr in CHANGING:
                changed = one.func.value
            elif isinstance(one, ast.AugAssign) and not isinstance(one.value, ast.Constant):
                changed = one.target
            if changed is not None and ast.unparse(changed) in gone_over:
                tell("L23", one.lineno, f"{ast.unparse(changed)} is changed while it is gone over")


def sources_of(head):
    """The names, attributes and items that something goes over without a copy."""
    if isinstance(head, (ast.Name, ast.Attribute, ast.Subscript)):
        yield head
    elif called(head) in ("enumerate", "zip", "reversed"):
        for one in head.args:
            yield from sources_of(one)
    elif isinstance(head, ast.Call) and isinstance(head.func, ast.Attribute) and head.func.attr in VIEWS:
        yield from sources_of(head.func.value)
    elif isinstance(head, (ast.IfExp, ast.BoolOp)):
        for one in [head.body, head.orelse] if isinstance(head, ast.IfExp) else head.values:
            yield from sources_of(one)


def is_name_of_class(node):
    """Whether a node is `x.__class__.__name__`, or the inner part of one."""
    if node.attr == "__class__":
        node = node.parent
    inner = getattr(node, "value", None)
    return (
        isinstance(node, ast.Attribute) and node.attr == "__name__" and isinstance(node.ctx, ast.Load)
        and isinstance(inner, ast.Attribute) and inner.attr == "__class__"
        and isinstance(inner.value, (ast.Name, ast.Attribute))
    )


def check_call(sources, node, tell):
    if not isinstance(node, ast.Call):
        return
    line = node.lineno
    name = called(node)
    keys = {one.arg for one in node.keywords}
    if name in ("sorted", "min", "max") and not is_plain_order(node):
        tell("L5", line, f"{name} of what is not plainly numbers or strings")
    if name in BUILTINS and keys - {"key", "reverse", "default", "start"}:
        tell("L22", line, f"keyword of {name}")
    if name == "isinstance":
        asked = node.args[1].elts if isinstance(node.args[1], ast.Tuple) else [node.args[1]]
        if any(ast.unparse(one) not in {"int", "str", "bool", "list", "tuple", "dict"} | set(sources.classes)
               for one in asked):
            tell("L22", line, "isinstance")
    word = node.func.attr if isinstance(node.func, ast.Attribute) else None
    if word and word not in METHODS | sources.methods:
        tell("L25", line, f"method {word}")
    if word == "sort" or word == "format":
        tell("L5/L25", line, word)
    if (name in ON_THE_SPOT or word in VIEWS or (name or word) in sources.generators) and not on_the_spot(node):
        tell("L23", line, f"{name or word} is not iterated at once")
    if name == "reversed" and called(node.args[0]) not in ("list", "tuple", "sorted", "range"):
        tell("L5", line, "reversed")


def on_the_spot(node):
    parent = node.parent
    if isinstance(parent, (ast.For, ast.comprehension)):
        return parent.iter is node
    return called(parent) in TAKES_ITERABLE or isinstance(parent, ast.YieldFrom)


def is_plain(node):
    if isinstance(node, ast.Constant):
        return isinstance(node.value, (int, str))
    return called(node) in ("int", "len", "str", "ord") or isinstance(node, ast.JoinedStr)


def is_plain_order(call):
    for one in call.keywords:
        if one.arg == "key":
            return ast.unparse(one.value) in ("int", "str", "len")
    if len(call.args) > 1:
        return any(is_plain(one) for one in call.args)
    only = call.args[0]
    return called(only) in ("set", "range") or isinstance(only, ast.ListComp) and is_plain(only.elt)


def check_function(sources, node, tell):
    if not isinstance(node, ast.FunctionDef):
        return
    line = node.lineno
    in_class = isinstance(node.parent, ast.ClassDef)
    if node.end_lineno - line + 1 > 40:
        tell("L10", line, f"length of {node.name}")
    if node.name.startswith("__") and not in_class or node.returns is not None:
        tell("L28/L21", line, node.name)
    for one in node.decorator_list:
        plain = isinstance(one, ast.Name) and one.id in ("property", "staticmethod", "classmethod")
        if not in_class or not (plain or isinstance(one, ast.Attribute) and one.attr == "setter"):
            tell("L4", line, "decorator")
    told = [one.attr for one in node.decorator_list if isinstance(one, ast.Attribute)]
    if ast.get_docstring(node) is None and not node.name.startswith("__") and "setter" not in told:
        tell("style", line, f"{node.name} has no docstring")
    returns = [one.value for one in ast.walk(node) if isinstance(one, ast.Return)]
    if node.name == "__init__" and returns:
        tell("L28", line, "__init__ returns")
    if node.name in ("__str__", "__repr__"):
        fine = [
            isinstance(one, (ast.JoinedStr, ast.Constant)) or called(one) in ("str", "repr")
            or isinstance(one, ast.Call) and isinstance(one.func, ast.Attribute) and one.func.attr == "join"
            and isinstance(one.func.value, ast.Constant) for one in returns
        ]
        if not all(fine) or not isinstance(node.body[-1], ast.Return):
            tell("L28", line, node.name)
    if yields(node) and (node.name.startswith("__") or node.decorator_list):
        tell("L23", line, "yield")
    names = [one.arg for one in node.args.args]
    if node.name in DUNDERS - {"__init__", "__call__", "__exit__"}:
        wanted = {"__getitem__": ["self", "at"], "__setitem__": ["self", "at", "worth"], "__contains__": ["self", "x"]}
        if names not in ([wanted[node.name]] if node.name in wanted else [["self"], ["self", "other"]]):
            tell("L5", line, f"parameters of {node.name}")


def check_class(sources, node, tell):
    if isinstance(node, ast.ClassDef):
        methods = {row.name for row in node.body if isinstance(row, ast.FunctionDef)}
        if "__getitem__" in methods and "__iter__" not in methods:
            tell("L5", node.lineno, "__getitem__ without __iter__")
        if node.bases and [name for name in methods if re.fullmatch(r"__r(?!epr|shift)\w+__", name)]:
            tell("L5", node.lineno, "reflected method with a base class")
        if node.bases and {"__le__", "__ge__"} <= methods:
            tell("L5", node.lineno, "order with a base class")
        if not isinstance(node.parent, ast.Module) or node.decorator_list or node.keywords:
            tell("L15", node.lineno, "place or decorator of a class")
        if ast.get_docstring(node) is None:
            tell("style", node.lineno, f"{node.name} has no docstring")
    if isinstance(node, ast.Name) and isinstance(node.ctx, ast.Load) and node.id in sources.classes:
        parent = node.parent
        holder = parent.parent if isinstance(parent, ast.Tuple) else parent
        fine = (
            isinstance(holder, (ast.ClassDef, ast.ExceptHandler, ast.Raise)) or isinstance(parent, ast.Attribute)
            or isinstance(holder, ast.Call) and (holder.func is node or called(holder) == "isinstance")
        )
        if not fine:
            tell("L18", node.lineno, f"class {node.id} as a value")
        if isinstance(parent, ast.Attribute) and parent.attr not in sources.class_values | {"read", "even"}:
            tell("L5", node.lineno, f"{node.id}.{parent.attr} is read off a class")


SIGNS = {
    ast.Add: "add", ast.Sub: "sub", ast.Mult: "mul", ast.FloorDiv: "floordiv", ast.Mod: "mod", ast.Pow: "pow",
    ast.BitAnd: "and", ast.BitOr: "or", ast.BitXor: "xor", ast.LShift: "lshift", ast.RShift: "rshift",
    ast.Lt: "lt", ast.LtE: "le", ast.Gt: "gt", ast.GtE: "ge", ast.Eq: "eq", ast.NotEq: "eq", ast.In: "contains",
    ast.NotIn: "contains", ast.USub: "neg", ast.UAdd: "pos", ast.Invert: "invert",
}
MAY_CHANGE = {"__init__", "__call__", "__enter__", "__exit__", "__setitem__"} | {
    name for name in DUNDERS if re.fullmatch("__i(?!nit__|ter__|nvert__)[a-z]+__", name)
}


def changes(sources):
    """What properties and operators change, and what they are handed and call, through what they call, too."""
    found = []
    for root in sources.functions:
        if is_getter(root) or root.name in DUNDERS - MAY_CHANGE:
            for node in all_run(sources, root):
                found.extend((root_file(sources, root), root.lineno, f"{root.name}: {why}")
                             for why in changed_by(sources, node))
    return found


def root_file(sources, node):
    """The name of the file in which a node stands."""
    while not isinstance(node, ast.Module):
        node = node.parent
    return next(name for name, tree in sources.trees.items() if tree is node)


def all_run(sources, root):
    """The functions that a function may run, by the names alone, itself included."""
    known, todo = {id(root): root}, [root]
    while todo:
        for node in ast.walk(todo.pop()):
            for one in runs(sources, node):
                if id(one) not in known:
                    known[id(one)] = one
                    todo.append(one)
    return list(known.values())


def runs(sources, node):
    """The functions that a node runs, by the names alone."""
    names = []
    if isinstance(node, ast.Call) and isinstance(node.func, ast.Name):
        if node.func.id in sources.classes or node.func.id == "cls":
            holder = node
            while node.func.id == "cls" and not isinstance(holder, ast.ClassDef):
                holder = holder.parent
            return sources.makings(holder.name if node.func.id == "cls" else node.func.id)
        names = [node.func.id] + {"str": ["__str__"], "repr": ["__repr__"], "len": ["__len__"]}.get(node.func.id, [])
    elif isinstance(node, ast.Call) and isinstance(node.func, ast.Attribute):
        names = [node.func.attr]
    elif isinstance(node, ast.Attribute) and isinstance(node.ctx, ast.Load):
        return sources.fetching.get(node.attr, [])
    elif isinstance(node, (ast.BinOp, ast.UnaryOp)) and node.op.__class__ in SIGNS:
        names = [f"__{side}{SIGNS[node.op.__class__]}__" for side in ("", "r")]
    elif isinstance(node, ast.Compare):
        names = [f"__{SIGNS[sign.__class__]}__" for sign in node.ops if sign.__class__ in SIGNS]
    elif isinstance(node, ast.Subscript) and isinstance(node.ctx, ast.Load):
        names = ["__getitem__"]
    elif isinstance(node, ast.FormattedValue):
        names = ["__str__"]
    return [one for name in names for one in sources.named.get(name, [])]


def changed_by(sources, function):
    """What the rows of a function itself change, or call that they are handed."""
    own = {one.arg for one in function.args.args}
    local = own | {one.id for one in ast.walk(function) if isinstance(one, ast.Name) and isinstance(one.ctx, ast.Store)}
    fresh = fresh_names(function)
    for node in ast.walk(function):
        if isinstance(node, ast.Attribute) and isinstance(node.ctx, ast.Store):
            if node.attr in sources.settable:
                yield f"{function.name} gives {node.attr}, which may run a setter"
            elif function.name != "__init__" or ast.unparse(node.value) != "self":
                yield f"{function.name} changes {node.attr}"
        if called(node) in local - {"cls"}:
            yield f"{function.name} calls {called(node)}"
        if isinstance(node, ast.Subscript) and isinstance(node.ctx, (ast.Store, ast.Del)):
            if ast.unparse(node.value) not in fresh:
                yield f"{function.name} changes an item of {ast.unparse(node.value)}"
        if isinstance(node, ast.Call) and isinstance(node.func, ast.Attribute):
            if node.func.attr in CHANGING and ast.unparse(node.func.value) not in fresh:
                yield f"{function.name} changes {ast.unparse(node.func.value)}"


CHANGING = {
    "append", "clear", "extend", "insert", "pop", "remove", "reverse", "setdefault", "update", "sort", "add", "discard",
}


def fresh_names(function):
    """The local variables that are only ever assigned lists and dicts that the function makes."""
    made, other = set(), {one.arg for one in function.args.args}
    for node in ast.walk(function):
        if isinstance(node, ast.Assign):
            for target in node.targets:
                if isinstance(target, ast.Name) and is_made(node.value):
                    made.add(target.id)
                else:
                    other |= {
                        one.id for one in ast.walk(target) if isinstance(one, ast.Name) and isinstance(one.ctx, ast.Store)
                    }
        elif isinstance(node, (ast.For, ast.comprehension)):
            other |= {one.id for one in ast.walk(node.target) if isinstance(one, ast.Name)}
    return made - other


def is_made(value):
    kinds = (ast.List, ast.Dict, ast.Set, ast.ListComp, ast.DictComp, ast.SetComp)
    if isinstance(value, kinds) or called(value) in ("list", "dict", "set", "sorted"):
        return True
    if isinstance(value, ast.BinOp) and isinstance(value.op, ast.Mult):
        return is_made(value.left)
    return isinstance(value, ast.Subscript) and isinstance(value.slice, ast.Slice)


def check_error(sources, node, tell):
    if isinstance(node, ast.ExceptHandler):
        asked = node.type.elts if isinstance(node.type, ast.Tuple) else [node.type]
        for one in asked:
            if not isinstance(one, ast.Name) or one.id not in {"KeyError", "ZeroDivisionError"} | set(sources.classes):
                tell("L19", node.lineno, "handler")
    if isinstance(node, ast.Raise) and node.exc is not None:
        if called(node.exc) not in {"TypeError", "AttributeError"} | set(sources.classes):
            tell("L19", node.lineno, "raise")


def check_families(sources, tell):
    for name in sorted(sources.properties & (sources.methods | sources.class_values | METHODS)):
        tell("L5", 0, f"property {name} has the name of a method or a class value")
    for name in sorted(sources.generators & (sources.attributes | METHODS)):
        tell("L23", 0, f"generator {name} has the name of an attribute or a method")
    for name in sorted(sources.methods & sources.attributes):
        tell("L18", 0, f"{name} is a method here and an attribute there")
    names = [node.name for node in sources.functions if not is_property(node)]
    for name in sorted(sources.generators):
        if names.count(name) > 1:
            tell("L23", 0, f"another function is called {name}")
    for node in sources.classes.values():
        methods = [row.name for row in node.body if isinstance(row, ast.FunctionDef)]
        stored = {
            one.attr for one in ast.walk(node) if isinstance(one, ast.Attribute) and isinstance(one.ctx, ast.Store)
            and isinstance(one.value, ast.Name) and one.value.id == "self"
        }
        plain = {name for name in methods if name not in sources.properties}
        for name in sorted(stored & plain):
            tell("L18", 0, f"{node.name}.{name} is a method and an attribute")
