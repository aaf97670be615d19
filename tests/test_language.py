"""Rules of the language that a look at the files of the package can see. Where the package uses less than the rules
let it use, so does this test: what is newly needed is added here, with its rule."""

import ast
import builtins
import pathlib
import re
import unittest
import warnings

PACKAGE = pathlib.Path(__file__).resolve().parent.parent / "halverules"
NAME = "halverules"

LIBRARY = {
    "heapq": {"heappush", "heappop", "heapify", "heapreplace", "heappushpop"},
    "math": {"gcd", "lcm", "isqrt", "comb", "perm", "factorial"},
    "itertools": {"product", "combinations", "permutations"},
}
BUILTINS = set(
    "len range enumerate zip min max sum abs sorted reversed int str bool bytes list tuple dict set frozenset isinstance"
    " ord repr any all divmod Exception ValueError TypeError KeyError IndexError LookupError ZeroDivisionError"
    " ArithmeticError OverflowError RuntimeError NotImplementedError AttributeError StopIteration NotImplemented"
    .split())
METHODS = set(
    "append clear copy count endswith extend find get index insert isalnum isalpha isdigit islower isspace isupper items"
    " join keys ljust lower lstrip partition pop remove replace reverse rfind rjust rpartition rsplit rstrip setdefault"
    " split splitlines startswith strip update upper values zfill bit_length removeprefix removesuffix".split())
CHANGING = {"append", "clear", "extend", "insert", "pop", "remove", "reverse", "setdefault", "update", "sort", "add",
            "discard"}
OPERATORS = set(
    "__eq__ __ne__ __lt__ __le__ __gt__ __ge__ __add__ __radd__ __sub__ __rsub__ __mul__ __rmul__ __floordiv__ __mod__"
    " __pow__ __and__ __or__ __xor__ __lshift__ __rshift__ __neg__ __invert__ __bool__ __contains__ __getitem__ __str__"
    " __repr__ __len__ __iter__".split())
DOUBLE = OPERATORS | {"__init__", "__call__", "__setitem__"}
NOT_USED = set(
    "register mro elements open input law version_info with_traceback add_note attrgetter breakpoint builtins compile"
    " copyright credits delattr dir eval exec exit gc getattr globals hasattr help id importlib license locals"
    " methodcaller os quit setattr super type vars sys iter next map".split())
NO_WORDS = set(
    "type typing typing_extensions enum Enum IntEnum StrEnum Flag IntFlag Generic Protocol ABC ABCMeta namedtuple"
    " NamedTuple TypedDict TYPE_CHECKING abstractmethod dataclass overload contextmanager".split())
NO_ATTRIBUTES = set(
    "items keys values pop update append clear extend insert remove reverse setdefault sort args encode decode hex"
    " fromhex format format_map as_integer_ratio bit_count conjugate from_bytes is_integer to_bytes".split())
NODES = (
    ast.Module, ast.ImportFrom, ast.alias, ast.FunctionDef, ast.ClassDef, ast.arguments, ast.arg, ast.Return, ast.Delete,
    ast.Assign, ast.AugAssign, ast.For, ast.While, ast.If, ast.Raise, ast.Pass, ast.Break, ast.Continue, ast.Expr,
    ast.BoolOp, ast.And, ast.Or, ast.BinOp, ast.Add, ast.Sub, ast.Mult, ast.FloorDiv, ast.Mod, ast.Pow, ast.LShift,
    ast.RShift, ast.BitOr, ast.BitXor, ast.BitAnd, ast.UnaryOp, ast.Invert, ast.Not, ast.USub, ast.IfExp, ast.Dict,
    ast.ListComp, ast.DictComp, ast.comprehension, ast.Compare, ast.Eq, ast.NotEq, ast.Lt, ast.LtE, ast.Gt, ast.GtE,
    ast.Try, ast.Is, ast.IsNot, ast.In, ast.NotIn, ast.Call, ast.keyword, ast.FormattedValue, ast.JoinedStr, ast.Constant,
    ast.Attribute, ast.Subscript, ast.Starred, ast.Name, ast.List, ast.Tuple, ast.Slice, ast.Load, ast.Store, ast.Del,
)
INTERFACE = {
    "limits": [],
    "errors": [
        "InputError", "InvalidNumber", "InvalidName", "InvalidRule", "NotFitting", "InvalidValues", "InvalidDeeds",
        "InvalidText", "InvalidCommand", "NotAFunction", "StateError", "UnknownName", "Refused", "Parted", "Busy",
        "NothingToUndo", "NoMember", "LimitError", "TooMany", "TooManyStates"],
    "halved": ["Halved", "constant", "number", "single"],
    "rules": ["rule"],
    "costs": ["costs"],
    "loops": ["from_high", "from_low"],
    "sums": ["sums"],
    "relations": ["parting", "new_numbers", "relations"],
    "learning": ["told_back"],
    "numbers": ["Numbers", "where"],
    "texts": ["least_text", "read_least"],
    "recurrences": ["solved"],
    "values": ["all_values", "at_value", "bounded"],
    "along": ["Row", "along", "powers", "index"],
    "desks": ["Desk"],
    "checker": ["accepts"],
    "certificates": ["certify_parting", "certify_relations", "certify_rests", "plain_rule"],
    "console": ["Console"],
}
METHODS_OF = {
    ("halved", "Halved"): set(
        "rank basis equations firsts __call__ __add__ __radd__ __sub__ __rsub__ __mul__ __rmul__ __neg__ __pow__"
        " __lshift__ __rshift__ __floordiv__ __mod__ __getitem__ __eq__ __bool__ __str__ __repr__".split()),
    ("numbers", "Numbers"): set(
        "told __and__ __or__ __sub__ __xor__ __invert__ __contains__ __le__ __bool__ __eq__ states least is_finite count"
        " kth indicator".split()),
    ("along", "Row"): set(
        "rank recurrence firsts __call__ __add__ __radd__ __sub__ __rsub__ __mul__ __rmul__ __neg__ __lshift__ __eq__"
        " __bool__ __repr__".split()),
    ("desks", "Desk"): set(
        "names equations busy history __getitem__ __setitem__ __contains__ drop equate release do_all undo".split()),
    ("console", "Console"): {"desk", "say"},
}
# The parameters of each function of the interface, and of the methods that are not operators.
PARAMETERS = {
    ("halved", "constant"): "c", ("halved", "number"): "", ("halved", "single"): "n",
    ("halved", "Halved.__call__"): "self n",
    ("rules", "rule"): "even odd firsts told", ("costs", "costs"): "low high extra values",
    ("loops", "from_high"): "start zero one answer", ("loops", "from_low"): "start zero one answer", ("sums", "sums"): "f",
    ("relations", "parting"): "f g", ("relations", "new_numbers"): "*functions", ("relations", "relations"): "*functions",
    ("learning", "told_back"): "values", ("numbers", "where"): "f modulus rest", ("numbers", "Numbers.told"): "*members",
    ("numbers", "Numbers.count"): "self below", ("numbers", "Numbers.kth"): "self index",
    ("numbers", "Numbers.indicator"): "self",
    ("texts", "least_text"): "f", ("texts", "read_least"): "text", ("recurrences", "solved"): "text",
    ("values", "all_values"): "f", ("values", "at_value"): "f value", ("values", "bounded"): "f low high",
    ("along", "along"): "f start", ("along", "powers"): "base", ("along", "index"): "", ("along", "Row.__call__"): "self k",
    ("desks", "Desk.__init__"): "self", ("desks", "Desk.drop"): "self name", ("desks", "Desk.equate"): "self row",
    ("desks", "Desk.release"): "self index", ("desks", "Desk.do_all"): "self *deeds watch=None",
    ("desks", "Desk.undo"): "self times=1", ("checker", "accepts"): "claim certificate",
    ("certificates", "certify_parting"): "f g", ("certificates", "certify_relations"): "*functions",
    ("certificates", "certify_rests"): "f modulus", ("certificates", "plain_rule"): "f",
    ("console", "Console.__init__"): "self", ("console", "Console.say"): "self line",
}
# Methods that change their objects.
SETTING = {("Desk", "take"), ("Desk", "do_all"), ("Desk", "undo")}


class Source:
    """A file of the package."""

    def __init__(self, path):
        self.path = path
        self.module = path.stem
        self.text = path.read_bytes().decode("ascii")
        self.tree = ast.parse(self.text)

    def nodes(self, *kinds):
        return [node for node in ast.walk(self.tree) if isinstance(node, kinds)]

    def functions(self):
        return self.nodes(ast.FunctionDef)

    def defined(self):
        """The functions and classes at module level."""
        return {node.name: node for node in self.tree.body if isinstance(node, (ast.FunctionDef, ast.ClassDef))}

    def bound(self):
        """All names that are bound at module level, with repetitions."""
        names = list(self.defined())
        for node in self.tree.body:
            if isinstance(node, ast.ImportFrom):
                names.extend(alias.asname or alias.name for alias in node.names)
            elif isinstance(node, ast.Assign):
                names.extend(target.id for target in node.targets)
        return names

    def methods(self):
        return [
            (owner, node) for owner in self.nodes(ast.ClassDef) for node in owner.body if isinstance(node, ast.FunctionDef)]


SOURCES = [Source(path) for path in sorted(PACKAGE.glob("*.py"))]
BY_MODULE = {f"{NAME}.{source.module}": source for source in SOURCES}
OWN_METHODS = {node.name for source in SOURCES for _, node in source.methods()}


def local_names(function):
    """All names that a function binds."""
    names = {arg.arg for arg in ast.walk(function.args) if isinstance(arg, ast.arg)}
    return names | {node.id for node in ast.walk(function) if isinstance(node, ast.Name) and not is_read(node)}


def is_read(node):
    return isinstance(node.ctx, ast.Load)


def strings(source):
    return [node.value for node in source.nodes(ast.Constant) if isinstance(node.value, str)]


class FilesTest(unittest.TestCase):
    def test_only_plain_files(self):
        for path in PACKAGE.iterdir():
            if path.name == "__pycache__":
                continue
            self.assertTrue(path.is_file())
            self.assertTrue(path.name == "__init__.py" or re.fullmatch("[a-z][a-z0-9_]*[.]py", path.name), path)
            self.assertNotIn(path.stem, {*vars(builtins), "test", "tests", "site", "conftest", *NOT_USED, *LIBRARY})
            self.assertFalse(path.stem.startswith(("law_", "test_")))
        self.assertIn("__init__", [source.module for source in SOURCES])
        self.assertLessEqual(len(SOURCES), 100)

    def test_characters_and_sizes(self):
        for source in SOURCES:
            self.assertEqual(re.findall("[^ -~\n]", source.text), [])
            lines = source.text.split("\n")
            self.assertLessEqual(len(lines), 399 + 1)
            self.assertLessEqual(max(map(len, lines)), 120, source.path)
            for function in source.functions():
                self.assertLessEqual(function.end_lineno - function.lineno + 1, 40, function.name)

    def test_no_warnings(self):
        with warnings.catch_warnings():
            warnings.simplefilter("error")
            for source in SOURCES:
                compile(source.text, str(source.path), "exec")

    def test_words(self):
        for source in SOURCES:
            code = re.sub("#.*", "", source.text)
            for word in ("_wall", "_WallAttr", "(type)", "Meta", "metaclass=", "dataclass", "overload"):
                self.assertNotIn(word, source.text)
            docstrings = [ast.get_docstring(node, clean=False) or "" for node in source.nodes(
                ast.Module, ast.ClassDef, ast.FunctionDef)]
            for docstring in docstrings:
                code = code.replace(docstring, "")
            self.assertEqual(NO_WORDS & set(re.findall(r"\w+", code)), set())


class StatementsTest(unittest.TestCase):
    def test_kinds_of_nodes(self):
        for source in SOURCES:
            for node in ast.walk(source.tree):
                self.assertIsInstance(node, NODES, (source.path, getattr(node, "lineno", None)))

    def test_module_level(self):
        for source in SOURCES:
            self.assertIsNotNone(ast.get_docstring(source.tree))
            seen_other = False
            for node in source.tree.body[1:]:
                self.assertIsInstance(node, (ast.ImportFrom, ast.FunctionDef, ast.ClassDef, ast.Assign))
                if isinstance(node, ast.ImportFrom):
                    self.assertFalse(seen_other)
                else:
                    seen_other = True
                if isinstance(node, ast.Assign):
                    self.assertEqual(len(node.targets), 1)
                    self.assertIsInstance(node.targets[0], ast.Name)
                    self.assertEqual([call for call in ast.walk(node) if isinstance(call, ast.Call)], [])
            self.assertEqual(len(source.bound()), len(set(source.bound())))

    def test_imports(self):
        for source in SOURCES:
            for node in source.nodes(ast.ImportFrom):
                self.assertEqual(node.level, 0)
                for alias in node.names:
                    self.assertIsNone(alias.asname)
                    if node.module in LIBRARY:
                        self.assertIn(alias.name, LIBRARY[node.module])
                        uses = [name for name in source.nodes(ast.Name) if name.id == alias.name]
                        calls = [call.func for call in source.nodes(ast.Call)]
                        self.assertTrue(all(use in calls for use in uses))
                        self.assertNotIn(alias.name, [arg.arg for arg in source.nodes(ast.arg)])
                    else:
                        made = BY_MODULE[node.module]
                        assigned = set(made.bound()) - {
                            name.name for imported in made.nodes(ast.ImportFrom) for name in imported.names}
                        self.assertIn(alias.name, assigned)
                    self.assertTrue(
                        any(name.id == alias.name for name in source.nodes(ast.Name)), (source.path, alias.name))

    def test_imports_of_the_checker(self):
        others = {"limits", "errors"}
        waiting = ["checker"]
        found = set()
        while waiting:
            module = waiting.pop()
            found.add(module)
            for node in BY_MODULE[f"{NAME}.{module}"].nodes(ast.ImportFrom):
                if node.module in BY_MODULE and node.module.split(".")[1] not in others | found:
                    waiting.append(node.module.split(".")[1])
        self.assertEqual(found, {"checker", "plain", "spans", "residues"})
        for source in SOURCES:
            if source.module not in found:
                used = {node.module for node in source.nodes(ast.ImportFrom)}
                self.assertEqual(used & {f"{NAME}.{module}" for module in found}, set())

    def test_no_circles_of_imports(self):
        needs = {
            module: {node.module for node in source.nodes(ast.ImportFrom)} & set(BY_MODULE)
            for module, source in BY_MODULE.items()}
        while needs:
            ready = {module for module, others in needs.items() if not others & set(needs)}
            self.assertTrue(ready, needs)
            needs = {module: others for module, others in needs.items() if module not in ready}

    def test_decorators_and_annotations(self):
        for source in SOURCES:
            for function in source.functions():
                self.assertIsNone(function.returns)
                for decorator in function.decorator_list:
                    self.assertIn(decorator.id, ("property", "staticmethod"))
                self.assertEqual([arg.arg for arg in ast.walk(function.args) if getattr(arg, "annotation", None)], [])
            for owner in source.nodes(ast.ClassDef):
                self.assertEqual(owner.decorator_list, [])

    def test_no_function_in_a_function(self):
        for source in SOURCES:
            for function in source.functions():
                inner = [node for node in ast.walk(function) if isinstance(node, (ast.FunctionDef, ast.Lambda))]
                self.assertEqual(inner, [function])


class NamesTest(unittest.TestCase):
    def test_names(self):
        for source in SOURCES:
            bound = set(source.bound())
            for function in source.functions():
                bound |= local_names(function)
            for name in bound:
                self.assertRegex(name, "^(_|_?[A-Za-z][A-Za-z0-9_]*)$")
                self.assertNotIn(name, vars(builtins))
                self.assertNotIn(name, NOT_USED)
            for attribute in source.nodes(ast.Attribute):
                self.assertRegex(attribute.attr, "^(__init__|_?[A-Za-z][A-Za-z0-9_]*)$")
                self.assertNotIn(attribute.attr, ("register", "mro", "elements", "open", "input", "law"))
            self.assertEqual([name for name in source.nodes(ast.Name) if name.id == "_" and is_read(name)], [])

    def test_no_local_name_of_a_class_or_an_import(self):
        for source in SOURCES:
            taken = {name for name, node in source.defined().items() if isinstance(node, ast.ClassDef)}
            taken |= {alias.name for node in source.nodes(ast.ImportFrom) for alias in node.names}
            for function in source.functions():
                self.assertEqual(local_names(function) & taken, set(), (source.path, function.name))

    def test_builtins(self):
        for source in SOURCES:
            for function in source.functions():
                known = {*source.bound(), *local_names(function), *BUILTINS, "property", "staticmethod"}
                used = {name.id for name in ast.walk(function) if isinstance(name, ast.Name) and is_read(name)}
                self.assertEqual(used - known, set(), (source.path, function.name))

    def test_builtins_are_called(self):
        for source in SOURCES:
            calls = [call.func for call in source.nodes(ast.Call)]
            checks = [
                name for call in source.nodes(ast.Call)
                if isinstance(call.func, ast.Name) and call.func.id == "isinstance" for name in ast.walk(call.args[1])]
            bases = [base for owner in source.nodes(ast.ClassDef) for base in owner.bases]
            decorators = [name for function in source.functions() for name in function.decorator_list]
            for name in source.nodes(ast.Name):
                if name.id in vars(builtins):
                    self.assertTrue(name in calls + checks + bases + decorators, (source.path, name.lineno, name.id))

    def test_methods(self):
        for source in SOURCES:
            for call in source.nodes(ast.Call):
                if isinstance(call.func, ast.Attribute):
                    self.assertIn(call.func.attr, METHODS | OWN_METHODS)

    def test_attributes(self):
        stored = {node.attr for source in SOURCES for node in source.nodes(ast.Attribute) if not is_read(node)}
        self.assertEqual(stored & (NO_ATTRIBUTES | OWN_METHODS), set())
        for source in SOURCES:
            calls = [call.func for call in source.nodes(ast.Call)]
            for node in source.nodes(ast.Attribute):
                if is_read(node) and node not in calls:
                    self.assertIn(node.attr, stored | OWN_METHODS)

    def test_methods_are_defined_once(self):
        for source in SOURCES:
            for owner in source.nodes(ast.ClassDef):
                names = [node.name for node in owner.body if isinstance(node, ast.FunctionDef)]
                self.assertEqual(len(names), len(set(names)))
                for name in names:
                    self.assertTrue(name in DOUBLE or not name.startswith("__"), name)


class ExpressionsTest(unittest.TestCase):
    def test_constants(self):
        for source in SOURCES:
            for node in source.nodes(ast.Constant):
                self.assertIn(type(node.value), (int, str, bool, type(None)))

    def test_strings(self):
        for source in SOURCES:
            for text in strings(source):
                self.assertNotIn("%", text)
                self.assertNotRegex(text, "[._]__?$|^__")
                self.assertNotIn("__", text)

    def test_powers(self):
        for source in SOURCES:
            for node in source.nodes(ast.BinOp):
                if isinstance(node.op, ast.Pow):
                    self.assertIsInstance(node.right, ast.Constant)
                    self.assertIn(node.right.value, range(65))

    def test_is(self):
        for source in SOURCES:
            for node in source.nodes(ast.Compare):
                for sign, right in zip(node.ops, node.comparators):
                    if isinstance(sign, (ast.Is, ast.IsNot)):
                        self.assertTrue(isinstance(right, ast.Constant) and right.value in (None, True, False))

    def test_zip_and_the_like_are_iterated_at_once(self):
        kinds = {"zip", "enumerate", "reversed", "range"}
        for source in SOURCES:
            heads = [node.iter for node in source.nodes(ast.For, ast.comprehension)]
            inner = [arg for call in source.nodes(ast.Call) if isinstance(call.func, ast.Name) and call.func.id in {
                "list", "tuple", "reversed", "sum", "any", "all", "enumerate", "zip"} for arg in call.args[:1]]
            for call in source.nodes(ast.Call):
                if isinstance(call.func, ast.Name) and call.func.id in kinds:
                    self.assertTrue(call in heads + inner, (source.path, call.lineno))

    def test_order_of_things_is_not_asked(self):
        # Sets of numbers have <=, and with that only plain numbers and texts may be put in order.
        for source in SOURCES:
            for call in source.nodes(ast.Call):
                if isinstance(call.func, ast.Name):
                    self.assertNotIn(call.func.id, ("min", "max"))
                if isinstance(call.func, ast.Name) and call.func.id == "sorted":
                    (items,) = call.args
                    self.assertIsInstance(items, ast.ListComp)
                    self.assertIn(items.elt.func.id, ("int", "str"))

    def test_no_stars_in_calls(self):
        for source in SOURCES:
            for call in source.nodes(ast.Call):
                self.assertEqual([arg for arg in call.args if isinstance(arg, ast.Starred)], [], (source.path, call.lineno))
                self.assertEqual([keyword for keyword in call.keywords if keyword.arg is None], [])

    def test_names_in_comprehensions(self):
        kinds = (ast.ListComp, ast.DictComp)
        for source in SOURCES:
            for outer in source.nodes(*kinds):
                own = {name.id for part in outer.generators for name in ast.walk(part.target) if isinstance(name, ast.Name)}
                for inner in [node for node in ast.walk(outer) if isinstance(node, kinds) and node is not outer]:
                    taken = {name.id for part in inner.generators for name in ast.walk(part.target)
                             if isinstance(name, ast.Name)}
                    self.assertEqual(own & taken - {"_"}, set(), (source.path, outer.lineno))
            for function in source.functions():
                inside = [node for node in ast.walk(function) if isinstance(node, kinds)]
                bound = {name.id for node in inside for part in node.generators for name in ast.walk(part.target)
                         if isinstance(name, ast.Name)}
                within = {name for node in inside for name in ast.walk(node)}
                outside = {name.id for name in ast.walk(function) if isinstance(name, ast.Name) and not is_read(name)
                           and name not in within}
                # Narrower than the rule: where comprehensions stand in one another, none takes a name of the function.
                if any(isinstance(part, kinds) for node in inside for part in ast.walk(node) if part is not node):
                    self.assertEqual(bound & outside - {"_"}, set(), (source.path, function.name))

    def test_keywords_of_builtins(self):
        for source in SOURCES:
            for call in source.nodes(ast.Call):
                if isinstance(call.func, ast.Name) and call.func.id in vars(builtins):
                    self.assertEqual(call.keywords, [], (source.path, call.lineno))

    def test_any_and_the_like_take_lists(self):
        for source in SOURCES:
            for call in source.nodes(ast.Call):
                if isinstance(call.func, ast.Name) and call.func.id in ("any", "all", "sum"):
                    self.assertIsInstance(call.args[0], (ast.ListComp, ast.Name, ast.Call, ast.Attribute))


class ChangesTest(unittest.TestCase):
    def reached(self):
        """What operators and properties run: (source, function), by their names over the whole package."""
        everywhere = {
            name: (source, node) for source in SOURCES for name, node in source.defined().items()
            if isinstance(node, ast.FunctionDef)}
        waiting = [
            (source, node) for source in SOURCES for owner, node in source.methods()
            if node.name in OPERATORS or node.decorator_list]
        found = []
        while waiting:
            source, node = waiting.pop()
            if (source, node) in found:
                continue
            found.append((source, node))
            for name in ast.walk(node):
                if isinstance(name, ast.Name) and name.id in everywhere and name.id in source.bound():
                    waiting.append(everywhere[name.id])
        return found

    def own_names(self, function):
        """The local names that stand for nothing but lists and dicts that the function itself makes."""
        made, other = set(), {arg.arg for arg in ast.walk(function.args) if isinstance(arg, ast.arg)}
        plain = set()
        for node in ast.walk(function):
            if isinstance(node, ast.Assign):
                fresh = isinstance(node.value, (ast.List, ast.ListComp, ast.Dict)) or (
                    isinstance(node.value, ast.Call) and isinstance(node.value.func, ast.Name)
                    and node.value.func.id in ("list", "dict", "sorted"))
                for target in node.targets:
                    if fresh and isinstance(target, ast.Name):
                        made.add(target.id)
                        plain.add(target)
        for node in ast.walk(function):
            if isinstance(node, ast.Name) and not is_read(node) and node not in plain:
                other.add(node.id)
        return made - other

    def test_operators_change_nothing(self):
        reached = self.reached()
        self.assertGreater(len(reached), 40)
        for source, function in reached:
            own = self.own_names(function)
            here = (source.path, function.name)
            for node in ast.walk(function):
                if isinstance(node, ast.Attribute):
                    self.assertTrue(is_read(node), here)
                if isinstance(node, ast.Subscript) and not is_read(node):
                    self.assertTrue(isinstance(node.value, ast.Name) and node.value.id in own, here)
                if isinstance(node, ast.Call) and isinstance(node.func, ast.Attribute) and node.func.attr in CHANGING:
                    self.assertTrue(isinstance(node.func.value, ast.Name) and node.func.value.id in own, here)
                if isinstance(node, ast.AugAssign):
                    self.assertIsInstance(node.target, ast.Name, here)
                    self.assertIsInstance(node.op, ast.Add, here)
                    self.assertTrue(isinstance(node.value, ast.Constant) and type(node.value.value) is int, here)

    def test_operators_call_nothing_they_are_passed(self):
        for source, function in self.reached():
            for node in ast.walk(function):
                if isinstance(node, ast.Call):
                    self.assertIsInstance(node.func, (ast.Name, ast.Attribute))
                    if isinstance(node.func, ast.Name):
                        self.assertNotIn(node.func.id, local_names(function))

    def test_attributes_are_set_when_an_object_is_made(self):
        for source in SOURCES:
            for owner, method in source.methods():
                for node in ast.walk(method):
                    if isinstance(node, ast.Attribute) and not is_read(node):
                        self.assertEqual(node.value.id, "self")
                        self.assertTrue(method.name == "__init__" or (owner.name, method.name) in SETTING)

    def test_tables_are_only_read(self):
        readers = ("len", "list", "dict", "tuple", "enumerate", "sorted")
        for source in SOURCES:
            tables = {
                node.targets[0].id for node in source.tree.body
                if isinstance(node, ast.Assign) and isinstance(node.value, (ast.Dict, ast.List))}
            fine = [node.value for node in source.nodes(ast.Subscript)]
            fine += [right for node in source.nodes(ast.Compare) for right in node.comparators]
            fine += [node.iter for node in source.nodes(ast.For, ast.comprehension)]
            fine += [arg for call in source.nodes(ast.Call) for arg in call.args
                     if isinstance(call.func, ast.Name) and call.func.id in readers]
            for name in source.nodes(ast.Name):
                if name.id in tables and is_read(name):
                    self.assertIn(name, fine, (source.path, name.lineno))
            for node in source.nodes(ast.Subscript):
                if isinstance(node.value, ast.Name) and node.value.id in tables:
                    self.assertTrue(is_read(node))

    def test_finally(self):
        # Nothing but attributes that are assigned local names that were assigned ahead of the try, or literals.
        for source in SOURCES:
            for node in source.nodes(ast.Try):
                self.assertEqual((node.handlers, node.orelse), ([], []))
                for row in node.finalbody:
                    self.assertIsInstance(row, ast.Assign)
                    (target,) = row.targets
                    self.assertIsInstance(target, ast.Attribute)
                    self.assertIsInstance(row.value, (ast.Name, ast.Constant))
                (function,) = [found for found in source.functions() if node in found.body]
                ahead = function.body[:function.body.index(node)]
                known = {name.id for row in ahead for name in ast.walk(row) if isinstance(name, ast.Name) and not is_read(name)}
                read = {name.id for row in node.finalbody for name in ast.walk(row.value) if isinstance(name, ast.Name)}
                self.assertLessEqual(read, known)

    def test_what_is_iterated_over_is_not_changed(self):
        for source in SOURCES:
            for loop in source.nodes(ast.For):
                over = {name.id for name in ast.walk(loop.iter) if isinstance(name, ast.Name)}
                for node in [part for row in loop.body for part in ast.walk(row)]:
                    if isinstance(node, ast.Call) and isinstance(node.func, ast.Attribute):
                        if node.func.attr in CHANGING:
                            changed = {name.id for name in ast.walk(node.func.value) if isinstance(name, ast.Name)}
                            self.assertEqual(changed & over, set(), (source.path, loop.lineno))
                    if isinstance(node, ast.Subscript) and not is_read(node):
                        changed = {name.id for name in ast.walk(node.value) if isinstance(name, ast.Name)}
                        self.assertEqual(changed & over, set(), (source.path, loop.lineno))


class InterfaceTest(unittest.TestCase):
    def test_defined_where_they_are_listed(self):
        for module, names in INTERFACE.items():
            defined = BY_MODULE[f"{NAME}.{module}"].defined()
            self.assertEqual([name for name in names if name not in defined], [])

    def test_methods_stand_in_the_class_itself(self):
        for (module, name), methods in METHODS_OF.items():
            owner = BY_MODULE[f"{NAME}.{module}"].defined()[name]
            self.assertEqual(methods - {node.name for node in owner.body if isinstance(node, ast.FunctionDef)}, set())

    def test_parameters(self):
        for (module, name), parameters in PARAMETERS.items():
            place = BY_MODULE[f"{NAME}.{module}"].defined()[name.split(".")[0]]
            if "." in name:
                (place,) = [node for node in place.body if getattr(node, "name", None) == name.split(".")[1]]
            found = [arg.arg for arg in place.args.args]
            if place.args.vararg:
                found.append("*" + place.args.vararg.arg)
            found.extend(f"{arg.arg}={ast.unparse(worth)}" for arg, worth in zip(place.args.kwonlyargs, place.args.kw_defaults))
            self.assertEqual(" ".join(found), parameters)
            self.assertEqual((place.args.defaults, place.args.posonlyargs), ([], []))


if __name__ == "__main__":
    unittest.main()
