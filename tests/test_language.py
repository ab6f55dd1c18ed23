"""The files of the package keep to the mechanical rules of ../shared/LANGUAGE.md."""

import ast
import builtins
import os
import re
import unittest

ROOT = os.path.dirname(os.path.dirname(os.path.abspath(__file__)))
PACKAGE = os.path.join(ROOT, "hitclocks")
ALLOWED_BUILTINS = set(
    "len range enumerate zip min max sum abs sorted reversed int str bool list tuple dict set isinstance ord repr "
    "any all divmod super map iter next Exception ValueError TypeError KeyError IndexError LookupError "
    "ZeroDivisionError StopIteration NotImplemented property staticmethod classmethod".split())
BUILTIN_METHODS = set(
    "append clear copy count endswith extend find get index insert isalnum isalpha isdigit islower isspace isupper "
    "items join keys ljust lower lstrip partition pop remove replace reverse rfind rjust rpartition rsplit rstrip "
    "setdefault split splitlines startswith strip update upper values zfill bit_length".split())
BARRED_ATTRIBUTES = set(
    "items keys values pop update append clear extend insert remove reverse setdefault sort args encode decode hex "
    "fromhex format format_map mro".split())
BARRED_EVERYWHERE = set("register mro elements open input law version_info with_traceback add_note".split())
BARRED_WORDS = re.compile(
    r"\b(type|typing|typing_extensions|enum|Enum|IntEnum|StrEnum|Flag|IntFlag|Generic|Protocol|ABC|ABCMeta|namedtuple|"
    r"NamedTuple|TypedDict|TYPE_CHECKING|abstractmethod)\b|dataclass|overload|contextmanager|_wall\b|_WallAttr")
CHANGING = set("append clear extend insert pop remove reverse setdefault update sort add discard".split())
LIBRARY = {"math": {"gcd", "lcm", "isqrt", "comb", "perm", "factorial"},
           "heapq": {"heappush", "heappop", "heapify", "heapreplace", "heappushpop"}}
ORDER = ("errors memories prices fronts unders asking caches programs heads tales dearest papers pumps wholes showings "
         "matrices equations orders together lengths shortest prefixes spots gaps broken swamped dearplaces sides "
         "losses alike settling excesses monitors watching barred stairs choices locks means laps meanshows readings "
         "journals texts talewords desk").split()


def files():
    return sorted(name for name in os.listdir(PACKAGE) if name != "__pycache__")


def source(name):
    with open(os.path.join(PACKAGE, name), encoding="utf-8") as file:
        return file.read()


def tree(name):
    return ast.parse(source(name))


def functions(node):
    return [part for part in ast.walk(node) if isinstance(part, ast.FunctionDef)]


def bound_in(function):
    """The names that a function binds: parameters, targets, nested functions."""
    names = set()
    for part in ast.walk(function):
        if isinstance(part, ast.arg):
            names.add(part.arg)
        if isinstance(part, ast.Name) and isinstance(part.ctx, ast.Store):
            names.add(part.id)
        if isinstance(part, ast.FunctionDef) and part is not function:
            names.add(part.name)
        if isinstance(part, ast.ExceptHandler) and part.name:
            names.add(part.name)
    return names


def imports_of(name):
    found = []
    for part in tree(name).body:
        if isinstance(part, ast.ImportFrom) and part.module.startswith("hitclocks."):
            found.append(part.module[len("hitclocks."):])
    return found


def gone_over_by(node):
    """What a loop over this goes over, as far as it is a name, an attribute or an item."""
    if isinstance(node, (ast.Name, ast.Attribute, ast.Subscript)):
        return [node]
    if isinstance(node, ast.Call) and isinstance(node.func, ast.Name) and node.func.id in ("enumerate", "zip", "reversed"):
        return [thing for argument in node.args for thing in gone_over_by(argument)]
    if isinstance(node, ast.Call) and isinstance(node.func, ast.Attribute) and node.func.attr in ("items", "keys", "values"):
        return [node.func.value]
    if isinstance(node, ast.BoolOp):
        return [thing for value in node.values for thing in gone_over_by(value)]
    if isinstance(node, ast.IfExp):
        return gone_over_by(node.body) + gone_over_by(node.orelse)
    return []


def changed_by(node):
    """What a statement or a call changes, as it would be read."""
    found = []
    if isinstance(node, (ast.Assign, ast.Delete)):
        found = [target.value for target in node.targets if isinstance(target, ast.Subscript)]
    if isinstance(node, ast.AugAssign):
        found = [node.target.value if isinstance(node.target, ast.Subscript) else node.target]
    if isinstance(node, ast.Call) and isinstance(node.func, ast.Attribute) and node.func.attr in CHANGING:
        found = [node.func.value]
    if isinstance(node, ast.Call) and isinstance(node.func, ast.Name) and node.func.id.startswith("heap"):
        found = node.args[:1]
    return [ast.parse(ast.unparse(thing), mode="eval").body for thing in found]


class Files(unittest.TestCase):
    def test_only_plain_files(self):
        for name in files():
            self.assertRegex(name, r"\A[a-z][a-z0-9_]*\.py\Z|\A__init__\.py\Z")
        self.assertLessEqual(len(files()), 100)
        self.assertEqual(source("__init__.py"), "")

    def test_sizes_and_signs(self):
        for name in files():
            text = source(name)
            self.assertLessEqual(len(text.split("\n")), 400, name)
            for number, line in enumerate(text.split("\n")):
                self.assertLessEqual(len(line), 120, (name, number))
                self.assertRegex(line, r"\A[ -~]*\Z", (name, number))
            if text:
                self.assertTrue(text.endswith("\n") and not text.endswith("\n\n"), name)
            for function in functions(tree(name)):
                self.assertLessEqual(function.end_lineno - function.lineno + 1, 40, (name, function.name))

    def test_barred_words(self):
        for name in files():
            for part in ast.walk(tree(name)):
                if isinstance(part, ast.Name):
                    self.assertNotRegex(part.id, BARRED_WORDS, name)
                    self.assertNotIn(part.id, BARRED_EVERYWHERE, name)
                if isinstance(part, ast.Attribute):
                    self.assertNotRegex(part.attr, BARRED_WORDS, name)
                    self.assertNotIn(part.attr, BARRED_EVERYWHERE, name)
                if isinstance(part, (ast.FunctionDef, ast.ClassDef)):
                    self.assertNotIn(part.name, BARRED_EVERYWHERE, name)
                if isinstance(part, ast.arg):
                    self.assertNotIn(part.arg, BARRED_EVERYWHERE, name)

    def test_strings(self):
        for name in files():
            for part in ast.walk(tree(name)):
                if isinstance(part, ast.Constant) and isinstance(part.value, str):
                    self.assertNotIn("%", part.value, name)
                    self.assertFalse(part.value.endswith(("._", ".__")), name)
                    if "\n" not in part.value and " " not in part.value:
                        self.assertNotRegex(part.value, BARRED_WORDS, name)


class Imports(unittest.TestCase):
    def test_forms(self):
        for name in files():
            seen = False
            for at, part in enumerate(tree(name).body):
                if isinstance(part, (ast.Import, ast.ImportFrom)):
                    self.assertFalse(seen, name)
                    self.assertIsInstance(part, ast.ImportFrom, name)
                    self.assertEqual(part.level, 0, name)
                    for alias in part.names:
                        self.assertIsNone(alias.asname, name)
                        if part.module in LIBRARY:
                            self.assertIn(alias.name, LIBRARY[part.module], name)
                        else:
                            self.assertTrue(part.module.startswith("hitclocks."), name)
                            self.assertIn(alias.name, self.defined(part.module[len("hitclocks."):] + ".py"), name)
                elif not (at == 0 and isinstance(part, ast.Expr)):
                    seen = True

    def defined(self, name):
        names = set()
        for part in tree(name).body:
            if isinstance(part, (ast.FunctionDef, ast.ClassDef)):
                names.add(part.name)
            if isinstance(part, ast.Assign):
                names.add(part.targets[0].id)
        return names

    def test_imports_are_used_and_defined_ones_are_bound_once(self):
        for name in files():
            bound = []
            used = {part.id for part in ast.walk(tree(name)) if isinstance(part, ast.Name)}
            for part in tree(name).body:
                if isinstance(part, ast.ImportFrom):
                    for alias in part.names:
                        bound.append(alias.name)
                        self.assertIn(alias.name, used, name)
                if isinstance(part, (ast.FunctionDef, ast.ClassDef)):
                    bound.append(part.name)
                if isinstance(part, ast.Assign):
                    bound.append(part.targets[0].id)
            self.assertEqual(len(bound), len(set(bound)), name)

    def test_modules_import_only_earlier_ones(self):
        reached = {}

        def reach(module, path):
            self.assertNotIn(module, path)
            if module not in reached:
                reached[module] = set()
                for other in imports_of(module + ".py"):
                    reached[module] |= {other} | reach(other, path + (module,))
            return reached[module]

        for name in files():
            module = name[:-3]
            for other in reach(module, ()):
                if module in ORDER and other in ORDER:
                    self.assertLess(ORDER.index(other), ORDER.index(module), (module, other))


class Code(unittest.TestCase):
    def test_module_level(self):
        for name in files():
            for at, part in enumerate(tree(name).body):
                if isinstance(part, ast.Assign):
                    self.assertEqual(len(part.targets), 1, name)
                    self.assertIsInstance(part.targets[0], ast.Name, name)
                    if isinstance(part.value, ast.Dict) and isinstance(part.value.values[0], ast.Name):
                        above = {inner.name for inner in tree(name).body[:at] if isinstance(inner, ast.FunctionDef)}
                        self.assertLessEqual({value.id for value in part.value.values}, above)
                    else:
                        ast.literal_eval(part.value)
                elif isinstance(part, ast.Expr):
                    self.assertEqual(at, 0, name)
                else:
                    self.assertIsInstance(part, (ast.ImportFrom, ast.FunctionDef, ast.ClassDef), name)

    def test_no_barred_nodes(self):
        barred = (ast.Global, ast.AsyncFunctionDef, ast.Await, ast.Import, ast.GeneratorExp, ast.Div, ast.AnnAssign,
                  ast.MatMult, ast.Pow, ast.With, ast.SetComp, ast.Set, ast.Yield,
                  ast.YieldFrom, ast.Nonlocal, ast.NamedExpr, ast.JoinedStr, ast.Match)
        for name in files():
            for part in ast.walk(tree(name)):
                self.assertNotIsInstance(part, barred, (name, getattr(part, "lineno", 0)))
                if isinstance(part, ast.Constant):
                    self.assertNotIsInstance(part.value, (float, complex, bytes), name)
                if isinstance(part, (ast.FunctionDef, ast.ClassDef)):
                    decorators = [getattr(decorator, "id", None) for decorator in part.decorator_list]
                    self.assertIn(decorators, ([], ["property"]), (name, part.name))
                if isinstance(part, ast.Compare):
                    for sign, right in zip(part.ops, part.comparators):
                        if isinstance(sign, (ast.Is, ast.IsNot)):
                            self.assertIsInstance(right, ast.Constant, name)
                            self.assertIn(right.value, (None, True, False), name)

    def test_only_own_errors_are_caught(self):
        own = {part.name for part in tree("errors.py").body if isinstance(part, ast.ClassDef)}
        for name in files():
            for part in ast.walk(tree(name)):
                if isinstance(part, ast.Try):
                    self.assertEqual(part.finalbody, [], name)
                    for handler in part.handlers:
                        self.assertIn(handler.type.id, own, name)

    def test_stars_stand_in_calls_of_plain_names(self):
        for name in files():
            starred = {id(part) for part in ast.walk(tree(name)) if isinstance(part, ast.Starred)}
            self.assertLessEqual(len(starred), 1, name)
            for part in ast.walk(tree(name)):
                if isinstance(part, ast.Call):
                    for argument in part.args:
                        if isinstance(argument, ast.Starred):
                            self.assertIsInstance(part.func, ast.Name, name)
                            self.assertIsInstance(argument.value, ast.Name, name)

    def test_builtins(self):
        python = set(dir(builtins))
        for name in files():
            for part in ast.walk(tree(name)):
                if isinstance(part, ast.Name) and part.id in python:
                    self.assertIn(part.id, ALLOWED_BUILTINS, (name, part.lineno))
                    self.assertIsInstance(part.ctx, ast.Load, (name, part.lineno))
                if isinstance(part, ast.arg):
                    self.assertNotIn(part.arg, python, (name, part.arg))
                if isinstance(part, (ast.FunctionDef, ast.ClassDef)) and not part.name.startswith("__"):
                    self.assertNotIn(part.name, python, (name, part.name))

    def test_local_names(self):
        for name in files():
            barred = set()
            for part in tree(name).body:
                if isinstance(part, ast.ImportFrom):
                    barred |= {alias.name for alias in part.names}
                if isinstance(part, ast.ClassDef):
                    barred.add(part.name)
            for function in functions(tree(name)):
                self.assertEqual(bound_in(function) & barred, set(), (name, function.name))

    def test_underscore_is_not_read(self):
        for name in files():
            for part in ast.walk(tree(name)):
                if isinstance(part, ast.Name) and part.id == "_":
                    self.assertIsInstance(part.ctx, ast.Store, name)

    def test_attributes_and_methods(self):
        methods, attributes, called, both = set(), set(), set(), set()
        python = set()
        for value in ("", 0, [], {}, set(), b"", ()):
            python |= {word for word in dir(value) if not word.startswith("__")}
        for name in files():
            for part in ast.walk(tree(name)):
                if isinstance(part, ast.ClassDef):
                    own = {item.name for item in part.body if isinstance(item, ast.FunctionDef)}
                    methods |= {word for word in own if not word.startswith("__")}
                    both |= own & {inner.attr for inner in ast.walk(part)
                                   if isinstance(inner, ast.Attribute) and isinstance(inner.ctx, ast.Store)}
                if isinstance(part, ast.Attribute) and isinstance(part.ctx, ast.Store):
                    attributes.add(part.attr)
                    self.assertIsInstance(part.value, ast.Name, (name, part.attr))
                if isinstance(part, ast.Call) and isinstance(part.func, ast.Attribute):
                    called.add(part.func.attr)
        self.assertEqual(attributes & BARRED_ATTRIBUTES, set())
        self.assertEqual((methods | attributes) & python, {"copy"})
        self.assertEqual(both, set())
        # A name of a method of one class and of an attribute of another one is not called where operators run.
        self.assertEqual(methods & attributes, {"letters", "most", "names", "price"})
        self.assertEqual({word for word in called if not word.startswith("__")} - methods - BUILTIN_METHODS, set())

    def test_sets_are_not_made(self):
        for name in files():
            for part in ast.walk(tree(name)):
                if isinstance(part, ast.Call) and isinstance(part.func, ast.Name):
                    self.assertNotIn(part.func.id, ("set", "frozenset", "map", "iter", "next"), name)

    def test_each_function_has_a_docstring(self):
        for name in files():
            for function in functions(tree(name)):
                if not function.name.startswith("__"):
                    self.assertTrue(ast.get_docstring(function), (name, function.name))

    def test_what_a_loop_goes_over_is_not_changed(self):
        for name in files():
            for part in ast.walk(tree(name)):
                if isinstance(part, ast.For):
                    gone_over = {ast.dump(thing) for thing in gone_over_by(part.iter)}
                    for inner in [inner for row in part.body for inner in ast.walk(row)]:
                        for changed in changed_by(inner):
                            self.assertNotIn(ast.dump(changed), gone_over, (name, inner.lineno))

    def test_lambdas_stand_on_lines_of_their_own(self):
        for name in files():
            lines = [part.lineno for part in ast.walk(tree(name)) if isinstance(part, ast.Lambda)]
            self.assertEqual(len(lines), len(set(lines)), name)

    def test_methods_are_called_where_they_stand(self):
        methods, attributes = set(), set()
        for name in files():
            for part in ast.walk(tree(name)):
                if isinstance(part, ast.ClassDef):
                    methods |= {item.name for item in part.body if isinstance(item, ast.FunctionDef) and not item.decorator_list}
                if isinstance(part, ast.Attribute) and isinstance(part.ctx, ast.Store):
                    attributes.add(part.attr)
        methods -= attributes
        for name in files():
            whole = tree(name)
            called = {id(part.func) for part in ast.walk(whole) if isinstance(part, ast.Call)}
            for part in ast.walk(whole):
                if isinstance(part, ast.Attribute) and part.attr in methods:
                    self.assertIn(id(part), called, (name, part.lineno))

    def test_what_operators_run_changes_only_what_it_made(self):
        known, waiting = {}, []
        for name in files():
            for part in tree(name).body:
                if isinstance(part, ast.FunctionDef):
                    known[part.name] = part
                if isinstance(part, ast.ClassDef):
                    for item in functions(part):
                        if item.decorator_list or item.name.startswith("__") and item.name != "__init__":
                            waiting.append(item)
        seen = set()
        while waiting:
            function = waiting.pop()
            if id(function) in seen:
                continue
            seen.add(id(function))
            made = {}
            for part in ast.walk(function):
                if isinstance(part, ast.Call) and isinstance(part.func, ast.Name) and part.func.id in known:
                    waiting.append(known[part.func.id])
                if isinstance(part, ast.Assign) and isinstance(part.targets[0], ast.Name):
                    is_new = isinstance(part.value, (ast.List, ast.Dict, ast.ListComp, ast.DictComp))
                    made[part.targets[0].id] = made.get(part.targets[0].id, True) and is_new
            for part in ast.walk(function):
                if isinstance(part, ast.Attribute):
                    self.assertIsInstance(part.ctx, ast.Load, function.name)
                if isinstance(part, ast.AugAssign):
                    self.assertIsInstance(part.value, ast.Constant, function.name)
                for changed in changed_by(part) if not isinstance(part, ast.AugAssign) else []:
                    self.assertIsInstance(changed, ast.Name, function.name)
                    self.assertIs(made.get(changed.id), True, (function.name, changed.id))
        self.assertGreater(len(seen), 15)

    def test_kept_ranges_and_views(self):
        for name in files():
            for part in ast.walk(tree(name)):
                if isinstance(part, ast.Assign) and isinstance(part.value, ast.Call):
                    func = part.value.func
                    word = func.id if isinstance(func, ast.Name) else getattr(func, "attr", "")
                    self.assertNotIn(word, ("range", "zip", "enumerate", "reversed", "items", "keys", "values"), name)


if __name__ == "__main__":
    unittest.main()
