"""LANGUAGE.md: those of its rules that a script can tell simply, each by its number."""

import ast
import builtins
import pathlib
import re
import unittest

PACKAGE = pathlib.Path(__file__).resolve().parent.parent / "rowcounts"

LIBRARY = {
    "heapq": {"heappush", "heappop", "heapify", "heapreplace", "heappushpop"},
    "math": {"gcd", "lcm", "isqrt", "comb", "perm", "factorial"},
    "itertools": {"product", "combinations", "permutations"},
}

BUILTINS = set("""
    len range enumerate zip min max sum abs sorted reversed int str bool bytes list tuple dict set isinstance ord repr
    any all divmod iter next map Exception ValueError TypeError KeyError IndexError LookupError ZeroDivisionError
    ArithmeticError OverflowError RuntimeError NotImplementedError AttributeError StopIteration NotImplemented
    property staticmethod classmethod super
""".split())

METHODS = set("""
    append clear copy count endswith extend find get index insert isalnum isalpha isdigit islower isspace isupper items
    join keys ljust lower lstrip partition pop remove replace reverse rfind rjust rpartition rsplit rstrip setdefault
    split splitlines startswith strip update upper values zfill bit_length title capitalize swapcase casefold center
    expandtabs removeprefix removesuffix rindex isascii isdecimal isnumeric istitle isidentifier isprintable translate
    sort add discard
""".split())

DOUBLE = set("""
    init eq repr str len enter exit call iter lt le gt ge ne add sub mul floordiv mod pow and or xor lshift rshift
    radd rsub rmul rfloordiv rmod rand ror rxor rlshift rrshift iadd isub imul ifloordiv imod ipow iand ior ixor
    ilshift irshift neg pos invert abs bool contains getitem setitem
""".split())

NOWHERE = set("register mro elements open input law version_info with_traceback add_note format format_map".split())

NO_WORDS = set("""
    typing typing_extensions enum Enum IntEnum StrEnum Flag IntFlag Generic Protocol ABC ABCMeta namedtuple NamedTuple
    TypedDict TYPE_CHECKING abstractmethod
""".split())

STATEMENTS = (
    ast.Assign, ast.AugAssign, ast.AnnAssign, ast.If, ast.While, ast.For, ast.Return, ast.Break, ast.Continue, ast.Pass,
    ast.Raise, ast.Assert, ast.Delete, ast.Nonlocal, ast.Match, ast.With, ast.Try, ast.Expr, ast.FunctionDef,
    ast.ClassDef, ast.ImportFrom,
)


def files():
    return sorted(path for path in PACKAGE.rglob("*") if "__pycache__" not in path.parts and path.is_file())


def trees():
    return [(path, ast.parse(path.read_text())) for path in files()]


def nodes(kind):
    for path, tree in trees():
        for node in ast.walk(tree):
            if isinstance(node, kind):
                yield f"{path.name}:{getattr(node, 'lineno', 0)}", node


def module_of(path):
    return f"rowcounts.{path.stem}" if path.stem != "__init__" else "rowcounts"


def imported():
    return {module_of(path): [node.module for node in ast.walk(tree) if isinstance(node, ast.ImportFrom)]
            for path, tree in trees()}


def bound_at_top(tree):
    """The names that a file binds, in order, with those of its imports."""
    for node in tree.body:
        if isinstance(node, (ast.FunctionDef, ast.ClassDef)):
            yield node.name
        elif isinstance(node, ast.ImportFrom):
            yield from (alias.name for alias in node.names)
        elif isinstance(node, ast.Assign):
            yield from (target.id for target in node.targets)


def bound_in_functions(tree):
    """Parameters, variables and nested functions."""
    for node in ast.walk(tree):
        if isinstance(node, ast.arg):
            yield node.arg
        elif isinstance(node, ast.FunctionDef):
            inner = [part for part in ast.walk(node) if part is not node]
            yield from (part.id for part in inner if isinstance(part, ast.Name) and isinstance(part.ctx, ast.Store))
            yield from (part.name for part in inner if isinstance(part, ast.FunctionDef))


def docstrings(tree):
    return {id(node.body[0].value) for node in ast.walk(tree)
            if isinstance(node, (ast.Module, ast.ClassDef, ast.FunctionDef)) and ast.get_docstring(node) is not None}


def is_setter(node):
    return f"{node.name}.setter" in map(ast.unparse, node.decorator_list)


def is_generator(node):
    return any(isinstance(part, (ast.Yield, ast.YieldFrom)) for part in ast.walk(node))


def properties():
    return {node.name for _, node in nodes(ast.FunctionDef) if "property" in map(ast.unparse, node.decorator_list)}


def is_plain(node, barred):
    """Whether a value is a name, an attribute off a name, a literal, or a list, tuple or dict of these."""
    if isinstance(node, ast.Attribute):
        return isinstance(node.value, ast.Name) and node.attr not in barred
    if isinstance(node, (ast.List, ast.Tuple)):
        return all(is_plain(part, barred) for part in node.elts)
    if isinstance(node, ast.Dict):
        return all(is_plain(part, barred) for part in [*node.keys, *node.values])
    if isinstance(node, ast.UnaryOp):
        return isinstance(node.operand, ast.Constant)
    return isinstance(node, (ast.Name, ast.Constant))


def starred_wrongly(call, barred):
    """Whether a call has a star with something behind it, or beside two stars, that may not stand there."""
    stars = [part.value for part in call.args if isinstance(part, ast.Starred)]
    twice = [keyword.value for keyword in call.keywords if keyword.arg is None]
    beside = [*call.args, *[keyword.value for keyword in call.keywords]] if twice else []
    plain = [part.value if isinstance(part, ast.Starred) else part for part in [*stars, *beside]]
    if not all(is_plain(part, barred) for part in plain):
        return True
    if twice and (len(call.keywords) > 1 or not isinstance(twice[0], (ast.Name, ast.Attribute))):
        return True
    first = min([keyword.value.col_offset + 10 ** 6 * keyword.value.lineno for keyword in call.keywords], default=None)
    return first is not None and any(first < star.col_offset + 10 ** 6 * star.lineno for star in stars)


def calls_of_init(tree):
    """The calls of an __init__ by its name."""
    for node in ast.walk(tree):
        if isinstance(node, ast.Call) and isinstance(node.func, ast.Attribute) and node.func.attr == "__init__":
            yield node


def is_class_name(node):
    """Whether a node is `x.__class__.__name__` of a name or an attribute."""
    inner = node.value
    return (node.attr == "__name__" and isinstance(inner, ast.Attribute) and inner.attr == "__class__"
            and isinstance(inner.value, (ast.Name, ast.Attribute)))


def is_init_above(call):
    """Whether a call is `super().__init__(..)` or `Base.__init__(self, ..)`."""
    if not isinstance(call.func, ast.Attribute) or call.func.attr != "__init__":
        return False
    if ast.unparse(call.func.value) == "super()":
        return True
    told = isinstance(call.func.value, ast.Name) and call.func.value.id != "self"
    return told and call.args != [] and ast.unparse(call.args[0]) == "self"


def double_attributes(tree):
    """The attributes whose names begin with two underscores, except those that may be used so."""
    allowed = []
    for node in ast.walk(tree):
        if isinstance(node, ast.Attribute) and is_class_name(node):
            allowed.extend([node, node.value])
        if isinstance(node, ast.Call) and is_init_above(node):
            allowed.append(node.func)
    return [node for node in ast.walk(tree) if isinstance(node, ast.Attribute) and node.attr.startswith("__")
            and not any(node is one for one in allowed)]


class LanguageTest(unittest.TestCase):

    def holds(self, rule, wrong):
        self.assertEqual(list(wrong), [], rule)

    def test_l1_l14_files(self):
        names = [str(path.relative_to(PACKAGE)) for path in files()]
        self.holds("L1", [name for name in names if not re.fullmatch(r"__init__\.py|[a-z][a-z0-9_]*\.py", name)])
        stems = [name.removesuffix(".py") for name in names if not name.startswith("_")]
        self.holds("L14", [stem for stem in stems if hasattr(builtins, stem)])
        self.assertIn("__init__.py", names)
        self.assertLessEqual(len(names), 100)

    def test_l10_sizes(self):
        for path in files():
            lines = path.read_text().splitlines()
            self.assertLessEqual(len(lines), 399, path.name)
            self.holds("L10", [(path.name, at) for at, line in enumerate(lines, 1) if len(line) > 120])
        self.holds("L10", [(at, node.name) for at, node in nodes(ast.FunctionDef)
                           if node.end_lineno - node.lineno + 1 > 40])

    def test_l14_characters(self):
        for path in files():
            signs = set(path.read_bytes())
            self.holds("L14", signs - set(range(32, 127)) - {10})

    def test_l2_l16_imports(self):
        names = {module_of(path): set(bound_at_top(tree)) - {
            alias.name for node in tree.body if isinstance(node, ast.ImportFrom) for alias in node.names}
            for path, tree in trees()}
        self.holds("L2", (at for at, _ in nodes(ast.Import)))
        for at, node in nodes(ast.ImportFrom):
            self.assertEqual(node.level, 0, at)
            known = LIBRARY.get(node.module, names.get(node.module))
            self.assertIsNotNone(known, f"L2 {at} {node.module}")
            self.holds(f"L16 {at}", [alias.name for alias in node.names if alias.name not in known or alias.asname])
        for path, tree in trees():
            kinds = [isinstance(node, ast.ImportFrom) for node in tree.body[1:]]
            self.assertEqual(kinds, sorted(kinds, reverse=True), f"L2 {path.name}")

    def test_l16_no_two_files_import_from_each_other(self):
        steps = imported()
        for module in steps:
            found, left = set(), list(steps[module])
            while left:
                one = left.pop()
                if one in steps and one not in found:
                    found.add(one)
                    left.extend(steps[one])
            self.assertNotIn(module, found, "L16")

    def test_l3_module_level(self):
        kinds = (ast.ImportFrom, ast.FunctionDef, ast.ClassDef, ast.Assign, ast.Expr)
        for path, tree in trees():
            self.holds("L3", [(path.name, node.lineno) for node in tree.body if not isinstance(node, kinds)])
            self.holds("L3", [(path.name, node.lineno) for node in tree.body if isinstance(node, ast.Expr)
                              and not isinstance(node.value, ast.Constant)])

    def test_l4_l5_functions_and_classes(self):
        for at, node in nodes(ast.FunctionDef):
            told = [ast.unparse(one) for one in node.decorator_list]
            known = ("property", "staticmethod", "classmethod", f"{node.name}.setter")
            self.holds(f"L4 {at}", [one for one in told if one not in known])
            if node.name.startswith("__"):
                self.assertIn(node.name.strip("_"), DOUBLE, f"L5 {at}")
        for at, node in nodes(ast.ClassDef):
            self.assertEqual(node.decorator_list, [], f"L4 {at}")
            told = [part.name for part in node.body if isinstance(part, ast.FunctionDef) and not is_setter(part)]
            self.assertEqual(len(told), len(set(told)), f"L18 {at}")
            if "__getitem__" in told:
                self.assertIn("__iter__", told, f"L5 {at}")

    def test_l6_l7_statements_and_expressions(self):
        self.holds("L6", (at for at, node in nodes(ast.stmt) if not isinstance(node, STATEMENTS)))
        self.holds("L7", (at for at, node in nodes(ast.BinOp) if isinstance(node.op, (ast.Div, ast.MatMult))))
        self.holds("L7", (at for at, node in nodes(ast.Constant) if isinstance(node.value, (float, complex))))
        self.holds("L7, a class has __eq__", (at for at, _ in nodes(ast.GeneratorExp)))

    def test_l8_l15_names(self):
        for path, tree in trees():
            top = list(bound_at_top(tree))
            self.assertEqual(len(top), len(set(top)), f"L15 {path.name}")
            inner = set(bound_in_functions(tree))
            self.holds(f"L15 {path.name}", [name for name in {*top, *inner} if hasattr(builtins, name)])
            barred = {alias.name for node in tree.body if isinstance(node, ast.ImportFrom) for alias in node.names}
            barred |= {node.name for node in tree.body if isinstance(node, ast.ClassDef)}
            self.holds(f"L15 {path.name}", barred & inner)
            used = {node.id for node in ast.walk(tree) if isinstance(node, ast.Name)}
            self.holds(f"L8 {path.name}", [name for name in used if hasattr(builtins, name) and name not in BUILTINS])
            self.holds(f"L2 {path.name}", [name for name in barred if not re.search(
                rf"\b{name}\b", "\n".join(ast.unparse(node) for node in tree.body
                                          if not isinstance(node, ast.ImportFrom)))] if path.stem != "__init__" else [])

    def test_l8_attributes_with_two_underscores(self):
        for path, tree in trees():
            self.holds(f"L8 {path.name}", [(node.lineno, node.attr) for node in double_attributes(tree)])

    def test_l8_wrong_attributes_with_two_underscores_are_found(self):
        for text in ("xs.__iter__()", "Pairs([x]).__iter__()", "a.__add__(b)", "x.__iter__", "self.__held",
                     "x.__dict__['a']", "x.__class__", "x.__class__(1)", "f.__name__", "f(x).__class__.__name__",
                     "x.__class__.__qualname__", "x.__class__.__class__.__name__", "super().__str__()",
                     "super().__init__", "super(A, self).__init__(x)", "Base.__init__", "Base.__init__(other, x)",
                     "Base.__init__()", "Base.__str__(self)", "self.__init__(x)", "self.__init__(self, x)",
                     "box.part.__init__(self)", "sorted(xs, key=len.__call__)", "Base.__init__(self, x.__len__())"):
            self.assertTrue(double_attributes(ast.parse(text)), text)
        for text in ("x.__class__.__name__", "self.shape.__class__.__name__ == other.__class__.__name__", "x._held",
                     "super().__init__()", "super().__init__(*xs, **more)", "Base.__init__(self)",
                     "Base.__init__(self, x.rows, at=x.__class__.__name__)", "x.a__b"):
            self.assertFalse(double_attributes(ast.parse(text)), text)

    def test_l12_l17_l26_names(self):
        for path, tree in trees():
            told = {node.attr for node in ast.walk(tree) if isinstance(node, ast.Attribute)}
            told |= set(bound_at_top(tree)) | set(bound_in_functions(tree))
            told |= {node.name for node in ast.walk(tree) if isinstance(node, (ast.FunctionDef, ast.ClassDef))}
            self.holds(f"L17 {path.name}", told & NOWHERE)
            self.holds(f"L12 {path.name}", [name for name in told if not re.fullmatch(
                r"_|__[a-z]+__|_?[A-Za-z][A-Za-z0-9_]*", name)])
            words = set(re.findall(r"\w+", "\n".join(ast.unparse(node) for node in tree.body)))
            self.holds(f"L17 {path.name}", words & NO_WORDS)

    def test_l19_errors(self):
        self.holds("L19", (at for at, node in nodes(ast.ExceptHandler) if node.type is None))
        for at, node in nodes(ast.Raise):
            self.assertTrue(node.exc is None or isinstance(node.exc, ast.Call) and isinstance(node.exc.func, ast.Name),
                            f"L19 {at}")

    def test_l20_is(self):
        for at, node in nodes(ast.Compare):
            for sign, side in zip(node.ops, node.comparators):
                if isinstance(sign, (ast.Is, ast.IsNot)):
                    self.assertTrue(isinstance(side, ast.Constant) and side.value in (None, True, False), f"L20 {at}")

    def test_l5_l22_sorted_and_its_kin(self):
        """Bag has an order, so these take what is plainly numbers or strings."""
        plain = ("len", "int", "ord", "str", "repr", "range")
        for at, node in nodes(ast.Call):
            if isinstance(node.func, ast.Name) and node.func.id in ("sorted", "min", "max"):
                told = ast.unparse(node)
                starts = "|".join(rf"\[?{name}\(" for name in plain) + r"|set\(\[(str|int)\(|\[?f'|\d"
                self.assertTrue(any(re.match(starts, ast.unparse(one)) for one in node.args), f"L5 {at} {told}")

    def test_l25_methods(self):
        own = {node.name for _, node in nodes(ast.FunctionDef)}
        for at, node in nodes(ast.Call):
            if isinstance(node.func, ast.Attribute):
                self.assertTrue(node.func.attr in own | METHODS, f"L25 {at} {node.func.attr}")
                if node.func.attr in METHODS:
                    self.assertEqual(node.keywords, [], f"L25 {at}")

    def test_l7_calls_with_stars(self):
        barred = properties()
        self.assertIn("rules", barred)
        for at, node in nodes(ast.Call):
            self.assertFalse(starred_wrongly(node, barred), f"L7 {at} {ast.unparse(node)}")

    def test_l7_wrong_calls_with_stars_are_found(self):
        for text in ("f(*store.rules)", "f(one, *store.rules)", "f(*[store.rules])", "f(*box.more())", "f(*a.b.c)",
                     "f(*(x for x in xs))", "f(*[x for x in xs])", "f(*xs[0])", "f(*xs + ys)", "f(**d, a=1)",
                     "f(**d, **e)", "f(**{'a': 1})", "f(g(1), **d)", "f(store.rules, **d)", "f(a=1, *xs)",
                     "f(1, **store.rules)", "f(*(xs, store.rules))"):
            self.assertTrue(starred_wrongly(ast.parse(text, mode="eval").body, {"rules"}), text)
        for text in ("f(*rules)", "f(k, *store.names)", "f(*xs, n, sep=n)", "f(**d)", "f(1, x.y, **box.told)",
                     "f(*[1, x], *(y, -1))", "f(store.rules, *xs)", "f(g(x), *xs)", "f(*xs, a=store.rules)"):
            self.assertFalse(starred_wrongly(ast.parse(text, mode="eval").body, {"rules"}), text)

    def test_l18_methods_and_attributes(self):
        methods = {part.name for _, node in nodes(ast.ClassDef) for part in node.body
                   if isinstance(part, ast.FunctionDef)}
        stored = {node.attr for _, node in nodes(ast.Attribute) if isinstance(node.ctx, ast.Store)}
        self.holds("L18", methods & stored)
        self.holds("L26", (methods | stored) & (METHODS | set("args encode decode hex fromhex".split())))

    def test_l5_properties(self):
        told = {node.name for _, node in nodes(ast.FunctionDef) if "property" in map(ast.unparse, node.decorator_list)}
        others = {node.name for _, node in nodes(ast.FunctionDef)
                  if "property" not in map(ast.unparse, node.decorator_list) and not is_setter(node)}
        stored = {node.attr for _, node in nodes(ast.Attribute) if isinstance(node.ctx, ast.Store)}
        self.holds("L5", told & (others | stored | METHODS))
        self.assertGreater(len(told), 10)

    def test_l23_l24_iterated_at_once(self):
        """Sets, zip and its kin stand straight in what uses them up, and not in an assignment or a return."""
        for at, node in nodes((ast.Assign, ast.Return)):
            value = node.value
            if isinstance(value, ast.Call) and isinstance(value.func, ast.Name):
                self.assertNotIn(value.func.id, ("zip", "enumerate", "reversed", "map", "range", "set"), f"L23 {at}")
            self.assertNotIsInstance(value, (ast.Set, ast.SetComp), f"L24 {at}")
        for at, node in nodes(ast.Call):
            if isinstance(node.func, ast.Name) and node.func.id in ("sorted", "len"):
                continue
            for part in node.args:
                is_set = isinstance(part, ast.Call) and ast.unparse(part.func) in ("set", "frozenset")
                self.assertFalse(is_set or isinstance(part, (ast.Set, ast.SetComp)), f"L24 {at}")

    def test_l23_generators(self):
        """The document asks for two generators of the name places, so generators may share one."""
        made = {node.name for _, node in nodes(ast.FunctionDef) if is_generator(node)} - {"__iter__"}
        told = {node.name for _, node in nodes(ast.FunctionDef) if not is_generator(node)}
        stored = {node.attr for _, node in nodes(ast.Attribute) if isinstance(node.ctx, ast.Store)}
        self.holds("L23", made & (told | stored))

    def test_l28_double_underscore_methods(self):
        for at, node in nodes(ast.FunctionDef):
            if node.name in ("__eq__", "__repr__", "__str__", "__len__"):
                told = [part for part in ast.walk(node) if isinstance(part, (ast.Assign, ast.AugAssign, ast.Delete))]
                self.assertEqual(told, [], f"L28 {at}")
            if node.name in ("__repr__", "__str__", "__len__"):
                self.assertIsInstance(node.body[-1], ast.Return, f"L28 {at}")
            for part in ast.walk(node):
                if isinstance(part, ast.Return) and node.name in ("__str__", "__repr__", "__len__"):
                    self.assertRegex(ast.unparse(part), r"return (len\(|str\(|repr\(|f?'|'.*'\.join\()", f"L28 {at}")

    def test_l28_the_init_of_a_base_class(self):
        """Each X.__init__(self, ..) stands in an __init__, and X stands in the brackets of the very class."""
        many = 0
        for at, node in nodes(ast.ClassDef):
            bases = [ast.unparse(base) for base in node.bases]
            for method in [part for part in node.body if isinstance(part, ast.FunctionDef)]:
                for call in calls_of_init(method):
                    many += 1
                    self.assertEqual(method.name, "__init__", f"L28 {at}")
                    self.assertIn(ast.unparse(call.func.value), bases, f"L28 {at}")
                    self.assertEqual(ast.unparse(call.args[0]), method.args.args[0].arg, f"L28 {at}")
        told = [path.read_text().count(".__init__") for path in files()]
        self.assertEqual(many, sum(told), "L28, all of them stand in classes and are called")
        self.assertGreater(many, 20)

    def test_l27_strings(self):
        for path, tree in trees():
            told = [node for node in ast.walk(tree) if isinstance(node, ast.Constant) and isinstance(node.value, str)]
            self.holds(f"L27 {path.name}", [node.lineno for node in told if "%" in node.value])
            quiet = docstrings(tree)
            self.holds(f"L17 {path.name}", [node.lineno for node in told if id(node) not in quiet
                                            and re.search(r"\btype\b", node.value)])
            escapes = re.findall(r"\\.", path.read_text())
            self.holds(f"L27 {path.name}", [one for one in escapes if one[1] not in "nt\\\"'"])


if __name__ == "__main__":
    unittest.main()
