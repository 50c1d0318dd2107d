"""The form of the package: the rules of the language subset that a reader of the code alone can check."""

import ast
import builtins
import os
import unittest

ROOT = os.path.dirname(os.path.dirname(os.path.abspath(__file__)))
PACKAGE = os.path.join(ROOT, "newsbooks")

BUILTINS = set(
    "len range enumerate zip min max sum abs sorted reversed int str bool list tuple dict set isinstance ord repr "
    "any all divmod pow getattr hasattr setattr iter next map super".split()
)
METHODS = set(
    "append clear copy count endswith extend find get index insert isalnum isalpha isdigit islower isspace isupper "
    "items join keys ljust lower lstrip partition pop remove replace reverse rfind rjust rpartition rsplit rstrip "
    "setdefault split splitlines startswith strip update upper values zfill bit_length".split()
)
DOUBLES = set(
    "__init__ __eq__ __repr__ __str__ __len__ __enter__ __exit__ __call__ __iter__ __lt__ __le__ __gt__ __ge__ __ne__ "
    "__add__ __sub__ __mul__ __floordiv__ __mod__ __pow__ __and__ __or__ __xor__ __lshift__ __rshift__ __neg__ "
    "__pos__ __invert__ __abs__ __bool__ __contains__ __getitem__ __setitem__".split()
)
LIBRARY = {
    "heapq": {"heappush", "heappop", "heapify", "heapreplace", "heappushpop"},
    "math": {"gcd", "lcm", "isqrt", "comb", "perm", "factorial"},
    "collections": {"defaultdict"},
}
ONCE = {"zip", "enumerate", "reversed", "range", "items", "keys", "values"}
TAKERS = {"list", "tuple", "dict", "sorted", "sum", "any", "all", "enumerate", "zip", "min", "max"}
CHANGING = {"append", "clear", "extend", "insert", "pop", "remove", "reverse", "setdefault", "update"}
ABSENT = set(
    "typing typing_extensions enum Enum IntEnum StrEnum Flag IntFlag Generic Protocol ABC ABCMeta namedtuple "
    "NamedTuple TypedDict TYPE_CHECKING abstractmethod type".split()
)


def sources():
    found = {}
    for name in sorted(os.listdir(PACKAGE)):
        if name != "__pycache__":
            with open(os.path.join(PACKAGE, name), encoding="utf-8") as file:
                found[name] = file.read()
    return found


SOURCES = sources()
TREES = {name: ast.parse(text) for name, text in SOURCES.items()}


def parents_of(tree):
    return {child: node for node in ast.walk(tree) for child in ast.iter_child_nodes(node)}


def called(node):
    if isinstance(node, ast.Call) and isinstance(node.func, ast.Name):
        return node.func.id
    if isinstance(node, ast.Call) and isinstance(node.func, ast.Attribute):
        return node.func.attr
    return None


def defined_in(tree):
    names = []
    for node in tree.body:
        if isinstance(node, (ast.FunctionDef, ast.ClassDef)):
            names.append(node.name)
        elif isinstance(node, ast.Assign):
            names.append(node.targets[0].id)
    return names


def imports_of(tree):
    return [node for node in tree.body if isinstance(node, ast.ImportFrom)]


def functions_of(tree):
    return [node for node in ast.walk(tree) if isinstance(node, ast.FunctionDef)]


def classes_of(tree):
    return [node for node in tree.body if isinstance(node, ast.ClassDef)]


def changed_in(function):
    """The names whose lists or dicts the function changes by an item or by a method."""
    found = set()
    for node in ast.walk(function):
        if isinstance(node, ast.Subscript) and isinstance(node.ctx, (ast.Store, ast.Del)):
            found.add(ast.unparse(node.value))
        elif isinstance(node, ast.Call) and isinstance(node.func, ast.Attribute) and node.func.attr in CHANGING:
            found.add(ast.unparse(node.func.value))
    return found


def made_by_times(function):
    """The names to which the function assigns a product: [0] * n and the like."""
    found = set()
    for node in ast.walk(function):
        if isinstance(node, ast.Assign) and isinstance(node.value, ast.BinOp) and isinstance(node.value.op, ast.Mult):
            found.update(ast.unparse(target) for target in node.targets)
    return found


def run_by_signs():
    """All functions that an operator, a property, == or len of the package may reach, gone after by their names."""
    by_name = {}
    for tree in TREES.values():
        for node in functions_of(tree):
            by_name.setdefault(node.name, []).append(node)
        for owner in classes_of(tree):
            makers = [node for node in owner.body if isinstance(node, ast.FunctionDef) and node.name == "__init__"]
            by_name.setdefault(owner.name, []).extend(makers)
    signs = DOUBLES - {"__init__", "__call__", "__enter__", "__exit__"}
    waiting = [node for tree in TREES.values() for node in functions_of(tree)
               if node.name in signs or any(getattr(part, "id", "") == "property" for part in node.decorator_list)]
    reached = []
    while waiting:
        function = waiting.pop()
        if function not in reached:
            reached.append(function)
            for node in ast.walk(function):
                waiting.extend(by_name.get(called(node), []))
    return reached


def own_methods():
    return {
        node.name
        for tree in TREES.values()
        for owner in classes_of(tree)
        for node in owner.body
        if isinstance(node, ast.FunctionDef)
    }


class LanguageTest(unittest.TestCase):
    def test_files_and_characters(self):
        self.assertIn("__init__.py", SOURCES)
        self.assertLessEqual(len(SOURCES), 100)
        for name, text in SOURCES.items():
            with self.subTest(file=name):
                self.assertRegex(name, r"^(__init__|[a-z][a-z0-9_]*)\.py$")
                self.assertTrue(all(sign == "\n" or " " <= sign <= "~" for sign in text))
                lines = text.split("\n")
                self.assertLessEqual(len(lines), 399)
                self.assertLessEqual(max(map(len, lines)), 120)
                self.assertNotIn("metaclass=", text)

    def test_functions_are_short(self):
        for tree in TREES.values():
            for node in functions_of(tree):
                self.assertLessEqual(node.end_lineno - node.lineno + 1, 40, node.name)

    def test_module_level(self):
        for tree in TREES.values():
            for place, node in enumerate(tree.body):
                if isinstance(node, ast.Expr):
                    self.assertEqual(place, 0)
                    self.assertIsInstance(node.value, ast.Constant)
                elif isinstance(node, ast.Assign):
                    self.assertEqual(len(node.targets), 1)
                    self.assertIsInstance(node.targets[0], ast.Name)
                    for part in ast.walk(node.value):
                        self.assertNotIsInstance(part, (ast.Call, ast.ListComp, ast.DictComp, ast.Set, ast.SetComp))
                else:
                    self.assertIsInstance(node, (ast.ImportFrom, ast.FunctionDef, ast.ClassDef))
            names = defined_in(tree) + [part.name for node in imports_of(tree) for part in node.names]
            self.assertEqual(len(names), len(set(names)))

    def test_imports_name_the_defining_file_without_a_circle(self):
        before = {}
        for name, tree in TREES.items():
            before[name] = set()
            for node in imports_of(tree):
                self.assertEqual(node.level, 0)
                if node.module in LIBRARY:
                    self.assertTrue({part.name for part in node.names} <= LIBRARY[node.module])
                    continue
                package, file = node.module.split(".")
                self.assertEqual(package, "newsbooks")
                before[name].add(file + ".py")
                for part in node.names:
                    self.assertIsNone(part.asname)
                    self.assertIn(part.name, defined_in(TREES[file + ".py"]))
        while before:
            free = [name for name in before if not before[name] & set(before)]
            self.assertTrue(free, "a circle of imports: " + " ".join(before))
            for name in free:
                del before[name]

    def test_imports_are_used(self):
        for tree in TREES.values():
            read = {node.id for node in ast.walk(tree) if isinstance(node, ast.Name)}
            for node in imports_of(tree):
                self.assertTrue({part.name for part in node.names} <= read, ast.dump(node))

    def test_kinds_of_statements_and_values(self):
        barred = (ast.Import, ast.Global, ast.AsyncFunctionDef, ast.AsyncFor, ast.AsyncWith, ast.Await, ast.Div)
        for tree in TREES.values():
            for node in ast.walk(tree):
                self.assertNotIsInstance(node, barred)
                if isinstance(node, ast.Constant):
                    self.assertNotIsInstance(node.value, (float, complex))
                    if isinstance(node.value, str):
                        self.assertNotIn("%", node.value)
                        self.assertFalse(node.value.endswith("._"))
                        self.assertFalse(node.value.startswith("__"))
                if isinstance(node, ast.Compare) and isinstance(node.ops[0], (ast.Is, ast.IsNot)):
                    self.assertIn(node.comparators[0].value, (None, True, False))
                if called(node) == "reversed":
                    # The package has a class with [..]: reversed takes only what surely is a builtin sequence.
                    self.assertIn(called(node.args[0]), ("list", "tuple", "sorted", "range"))
                if called(node) in ("any", "all", "sum", "min", "max", "sorted"):
                    # The package has classes with == and len: these calls take lists.
                    self.assertFalse([part for part in node.args if isinstance(part, ast.GeneratorExp)])

    def test_words_that_do_not_occur(self):
        for tree in TREES.values():
            docs = {ast.get_docstring(node, clean=False) for node in ast.walk(tree)
                    if isinstance(node, (ast.Module, ast.ClassDef, ast.FunctionDef))}
            for node in ast.walk(tree):
                if isinstance(node, ast.Name):
                    self.assertNotIn(node.id, ABSENT)
                elif isinstance(node, ast.Constant) and isinstance(node.value, str) and node.value not in docs:
                    self.assertFalse(set(node.value.split()) & ABSENT)

    def test_only_errors_of_the_package_are_caught(self):
        for tree in TREES.values():
            for node in ast.walk(tree):
                if isinstance(node, ast.Try):
                    self.assertEqual(node.finalbody, [])
                    for handler in node.handlers:
                        self.assertIn(handler.type.id, defined_in(TREES["errors.py"]))
                if isinstance(node, ast.Raise):
                    self.assertIn(called(node.exc), defined_in(TREES["errors.py"]))

    def test_errors_have_no_other_base(self):
        for owner in classes_of(TREES["errors.py"]):
            base = owner.bases[0].id
            self.assertEqual(base, "Exception" if owner.name == "NewsError" else "NewsError")

    def test_decorators_and_double_underscores(self):
        for tree in TREES.values():
            for owner in [node for node in ast.walk(tree) if hasattr(node, "body") and not isinstance(node, ast.IfExp)]:
                for node in owner.body:
                    if isinstance(node, ast.ClassDef):
                        self.assertEqual(node.decorator_list, [])
                    if isinstance(node, ast.FunctionDef):
                        names = [ast.unparse(part) for part in node.decorator_list]
                        within = ("property", "classmethod", "staticmethod", node.name + ".setter")
                        self.assertTrue(set(names) <= set(within if isinstance(owner, ast.ClassDef) else ()))
                        if node.name.startswith("__"):
                            self.assertIn(node.name, DOUBLES)
                            self.assertIsInstance(owner, ast.ClassDef)

    def test_what_is_called(self):
        methods = own_methods()
        own = {name for tree in TREES.values() for name in defined_in(tree)}
        library = {name for names in LIBRARY.values() for name in names}
        keywords = {"key", "reverse", "default", "start", "strict"}
        for tree in TREES.values():
            bound = {node.id for node in ast.walk(tree)
                     if isinstance(node, ast.Name) and isinstance(node.ctx, ast.Store)}
            bound = bound | {node.arg for node in ast.walk(tree) if isinstance(node, ast.arg)}
            for node in ast.walk(tree):
                if not isinstance(node, ast.Call):
                    continue
                if isinstance(node.func, ast.Attribute):
                    self.assertIn(node.func.attr, methods | METHODS)
                else:
                    self.assertIsInstance(node.func, ast.Name)
                    self.assertIn(node.func.id, BUILTINS | own | bound | library)
                if called(node) in BUILTINS and not isinstance(node.func, ast.Attribute):
                    self.assertTrue({part.arg for part in node.keywords} <= keywords)

    def test_sets_and_what_is_iterated_at_once(self):
        for tree in TREES.values():
            parents = parents_of(tree)
            for node in ast.walk(tree):
                above = parents.get(node)
                if called(node) == "set" or isinstance(node, ast.SetComp):
                    within = called(above) in ("sorted", "len") and above.keywords == []
                    self.assertTrue(within, ast.dump(node))
                elif called(node) in ONCE and not (called(node) in METHODS and not isinstance(node.func, ast.Attribute)):
                    looped = isinstance(above, (ast.For, ast.comprehension)) and above.iter is node
                    taken = called(above) in TAKERS and above.args[0] is node
                    self.assertTrue(looped or taken, ast.dump(node))

    def test_names_keep_off_builtins_imports_and_classes(self):
        known = set(dir(builtins))
        for tree in TREES.values():
            taken = {part.name for node in imports_of(tree) for part in node.names}
            taken = taken | {node.name for node in classes_of(tree)}
            bound = [node.id for node in ast.walk(tree)
                     if isinstance(node, ast.Name) and isinstance(node.ctx, ast.Store)]
            bound = bound + [node.arg for node in ast.walk(tree) if isinstance(node, ast.arg)]
            for name in bound:
                self.assertNotIn(name, known | taken)
                self.assertFalse(name.startswith("__"))
            for name in defined_in(tree):
                self.assertNotIn(name, known)

    def test_methods_and_attributes_have_unlike_names(self):
        methods = own_methods()
        generators = set()
        for tree in TREES.values():
            for node in ast.walk(tree):
                if isinstance(node, ast.Attribute) and isinstance(node.ctx, ast.Store):
                    self.assertNotIn(node.attr, methods | METHODS | {"keys", "args", "format", "mro"})
            for node in functions_of(tree):
                if any(isinstance(part, (ast.Yield, ast.YieldFrom)) for part in ast.walk(node)):
                    self.assertNotIn(node.name, generators)
                    generators.add(node.name)
        named = [node.name for tree in TREES.values() for node in functions_of(tree)]
        for name in generators:
            self.assertEqual(named.count(name), 1)

    def test_comprehensions_in_others_have_names_of_their_own(self):
        kinds = (ast.ListComp, ast.DictComp, ast.SetComp, ast.GeneratorExp)

        def names_in(comprehension):
            return {node.id for part in comprehension.generators for node in ast.walk(part.target)
                    if isinstance(node, ast.Name)}

        def check(node, taken, within):
            for child in ast.iter_child_nodes(node):
                mine = names_in(child) if isinstance(child, kinds) else set()
                if within:
                    self.assertFalse(mine & taken - {"_"}, ast.unparse(child))
                check(child, taken | mine, within or isinstance(child, kinds))

        for tree in TREES.values():
            for function in functions_of(tree):
                inner = set().union(*[names_in(node) for node in ast.walk(function) if isinstance(node, kinds)])
                loops = {node.id for loop in ast.walk(function) if isinstance(loop, ast.For)
                         for node in ast.walk(loop.target) if isinstance(node, ast.Name)}
                set_names = {node.id for part in ast.walk(function) if isinstance(part, ast.Assign)
                             for target in part.targets for node in ast.walk(target) if isinstance(node, ast.Name)}
                passed = {node.arg for node in ast.walk(function.args) if isinstance(node, ast.arg)}
                check(function, (loops | set_names | passed) & inner, False)

    def test_what_signs_and_properties_run_changes_no_product(self):
        reached = run_by_signs()
        self.assertIn("levels_of", [function.name for function in reached])
        for function in reached:
            self.assertFalse(made_by_times(function) & changed_in(function), function.name)

    def test_what_a_loop_goes_over_is_not_changed_in_it(self):
        for tree in TREES.values():
            for loop in ast.walk(tree):
                if not isinstance(loop, ast.For):
                    continue
                over = {ast.unparse(node) for node in ast.walk(loop.iter) if isinstance(node, (ast.Name, ast.Attribute))}
                for node in ast.walk(loop):
                    if isinstance(node, ast.Call) and called(node) in CHANGING:
                        self.assertNotIn(ast.unparse(node.func.value), over)
                    if isinstance(node, ast.Subscript) and isinstance(node.ctx, (ast.Store, ast.Del)):
                        self.assertNotIn(ast.unparse(node.value), over)


if __name__ == "__main__":
    unittest.main()
