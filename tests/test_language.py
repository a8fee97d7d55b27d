"""The form of the package's code: the rules of LANGUAGE.md that a program can look at."""

import ast
import builtins
import os
import unittest

HERE = os.path.dirname(os.path.abspath(__file__))
PACKAGE = os.path.join(os.path.dirname(HERE), "hadnot")

BUILTINS = set("""len range enumerate zip min max sum abs sorted reversed int str bool bytes list tuple
dict set frozenset isinstance ord repr any all divmod iter next map super property staticmethod classmethod
Exception ValueError TypeError KeyError IndexError LookupError ZeroDivisionError ArithmeticError
OverflowError RuntimeError NotImplementedError AttributeError StopIteration NotImplemented""".split())
LIBRARY = {
    "heapq": {"heappush", "heappop", "heapify", "heapreplace", "heappushpop"},
    "math": {"gcd", "lcm", "isqrt", "comb", "perm", "factorial"},
    "itertools": {"product", "combinations", "permutations"},
}
DUNDERS = set("""init eq repr str len enter exit call iter lt le gt ge ne add sub mul floordiv mod pow and or
xor lshift rshift neg pos invert abs bool contains getitem setitem""".split())
METHODS = set("""append clear copy count endswith extend find get index insert isalnum isalpha isdigit islower
isspace isupper items join keys ljust lower lstrip partition pop remove replace reverse rfind rjust
rpartition rsplit rstrip setdefault split splitlines startswith strip update upper values zfill bit_length
title capitalize swapcase casefold center expandtabs removeprefix removesuffix rindex isascii isdecimal
isnumeric istitle isidentifier isprintable add discard""".split())
CHANGING = set("append clear extend insert pop remove reverse setdefault update sort".split())
BARRED_ATTRIBUTES = set("""items keys values pop update append clear extend insert remove reverse setdefault
sort args encode decode hex fromhex format mro register elements open input law""".split())
BARRED_NAMES = set("""register mro elements open input law version_info with_traceback add_note attrgetter
breakpoint builtins compile copyright credits delattr dir eval exec exit gc getattr globals hasattr help id
importlib license locals methodcaller os quit setattr type vars sys chr print""".split())
BARRED_WORDS = set("""type typing typing_extensions enum Enum IntEnum StrEnum Flag IntFlag Generic Protocol ABC
ABCMeta namedtuple NamedTuple TypedDict TYPE_CHECKING abstractmethod""".split())
STATEMENTS = (ast.Global, ast.AsyncFunctionDef, ast.AsyncFor, ast.AsyncWith, ast.Match, ast.Await)


def sources():
    """The text and the tree of each file of the package, by its name."""
    found = {}
    for name in sorted(os.listdir(PACKAGE)):
        if name.endswith(".py"):
            with open(os.path.join(PACKAGE, name), encoding="utf-8") as file:
                text = file.read()
            found[name] = (text, ast.parse(text))
    return found


SOURCES = sources()
NODES = [(name, node) for name, (_, tree) in SOURCES.items() for node in ast.walk(tree)]


def defined(tree):
    """The names that a file defines itself."""
    names = set()
    for node in tree.body:
        if isinstance(node, (ast.FunctionDef, ast.ClassDef)):
            names.add(node.name)
        if isinstance(node, ast.Assign):
            names.add(node.targets[0].id)
    return names


def imported(tree):
    """The pairs of a module and a name that a file imports."""
    return [(node.module, alias.name) for node in tree.body if isinstance(node, ast.ImportFrom)
            for alias in node.names]


def places(nodes):
    return sorted(f"{name}:{getattr(node, 'lineno', 0)}" for name, node in nodes)


def reached(graph, start):
    """All that is reached from a node of a graph."""
    seen, waiting = set(), [start]
    while waiting:
        for name in graph[waiting.pop()]:
            if name not in seen:
                seen.add(name)
                waiting.append(name)
    return seen


class FormTest(unittest.TestCase):
    def none(self, nodes):
        self.assertEqual(places(nodes), [])

    def test_files(self):
        for name in os.listdir(PACKAGE):
            self.assertTrue(name == "__pycache__" or name.endswith(".py"), name)
        text, tree = SOURCES["__init__.py"]
        self.assertEqual([type(node) for node in tree.body], [ast.Expr])

    def test_sizes_and_signs(self):
        for name, (text, _) in SOURCES.items():
            lines = text.splitlines()
            self.assertLessEqual(len(lines), 399, name)
            for number, line in enumerate(lines, 1):
                self.assertLessEqual(len(line), 120, (name, number))
                self.assertTrue(all(" " <= sign <= "~" for sign in line), (name, number))
        self.none((name, node) for name, node in NODES
                  if isinstance(node, ast.FunctionDef) and node.end_lineno - node.lineno >= 40)

    def test_imports(self):
        graph = {}
        for name, (_, tree) in SOURCES.items():
            graph[name] = set()
            for module, what in imported(tree):
                if module in LIBRARY:
                    self.assertIn(what, LIBRARY[module])
                    continue
                file = module.removeprefix("hadnot.") + ".py"
                self.assertIn(what, defined(SOURCES[file][1]), name)
                graph[name].add(file)
            used = {node.id for node in ast.walk(tree) if isinstance(node, ast.Name)}
            for _, what in imported(tree):
                self.assertIn(what, used, f"{name} imports {what} in vain")
        for name in graph:
            self.assertNotIn(name, reached(graph, name))
        self.none((name, node) for name, node in NODES if isinstance(node, ast.Import)
                  or isinstance(node, ast.ImportFrom) and (node.level or any(a.asname for a in node.names)))

    def test_module_level(self):
        allowed = (ast.ImportFrom, ast.FunctionDef, ast.ClassDef, ast.Assign)
        for name, (_, tree) in SOURCES.items():
            self.none((name, node) for node in tree.body[1:] if not isinstance(node, allowed))
            self.assertTrue(ast.get_docstring(tree), name)
            for node in tree.body:
                if isinstance(node, ast.Assign):
                    self.assertEqual(len(node.targets), 1)
                    inner = [part for part in ast.walk(node.value) if part is not node.value]
                    self.none((name, part) for part in inner if isinstance(part, (ast.List, ast.Dict)))

    def test_statements_and_expressions(self):
        self.none((name, node) for name, node in NODES if isinstance(node, STATEMENTS))
        self.none((name, node) for name, node in NODES
                  if isinstance(node, (ast.Div, ast.MatMult)))
        self.none((name, node) for name, node in NODES if isinstance(node, ast.BinOp)
                  and isinstance(node.op, ast.Pow) and not isinstance(node.right, ast.Constant))
        self.none((name, node) for name, node in NODES
                  if isinstance(node, ast.Constant) and isinstance(node.value, (float, complex)))
        self.none((name, node) for name, node in NODES if isinstance(node, ast.Constant)
                  and isinstance(node.value, str) and "%" in node.value)
        calls = [node for _, node in NODES if isinstance(node, ast.Call)]
        straight = [arg for node in calls for arg in node.args
                    if isinstance(node.func, ast.Name) and node.func.id in ("list", "tuple", "dict")
                    or isinstance(node.func, ast.Attribute) and node.func.attr == "join"]
        self.none((name, node) for name, node in NODES
                  if isinstance(node, ast.GeneratorExp) and node not in straight)

    def test_identity(self):
        for name, node in NODES:
            if isinstance(node, ast.Compare):
                for sign, right in zip(node.ops, node.comparators):
                    if isinstance(sign, (ast.Is, ast.IsNot)):
                        self.assertIsInstance(right, ast.Constant, (name, node.lineno))

    def test_names(self):
        for name, (_, tree) in SOURCES.items():
            known = defined(tree) | {what for _, what in imported(tree)}
            barred = {what for _, what in imported(tree)}
            barred |= {node.name for node in tree.body if isinstance(node, ast.ClassDef)}
            barred |= BARRED_NAMES | set(dir(builtins))
            stored = {node.id for node in ast.walk(tree)
                      if isinstance(node, ast.Name) and not isinstance(node.ctx, ast.Load)}
            stored |= {node.arg for node in ast.walk(tree) if isinstance(node, ast.arg)}
            self.assertEqual(stored & barred, set(), name)
            self.assertEqual({word for word in stored if word.startswith("__")}, set(), name)
            read = {node.id for node in ast.walk(tree) if isinstance(node, ast.Name)}
            self.assertEqual(read - known - stored - BUILTINS, set(), name)
            self.assertNotIn("_", {node.id for node in ast.walk(tree) if isinstance(node, ast.Name)
                                   and isinstance(node.ctx, ast.Load)})

    def test_words(self):
        for name, node in NODES:
            if isinstance(node, ast.Name):
                self.assertNotIn(node.id, BARRED_WORDS, (name, node.lineno))
        for name, (text, _) in SOURCES.items():
            for word in ("_wall", "(type)", "Meta", "metaclass="):
                self.assertNotIn(word, text, name)

    def test_methods_and_attributes(self):
        own, attributes, properties = set(), set(), set()
        for _, node in NODES:
            if isinstance(node, ast.ClassDef):
                own |= {part.name for part in node.body if isinstance(part, ast.FunctionDef)}
                properties |= {part.name for part in node.body if isinstance(part, ast.FunctionDef)
                               if any(ast.unparse(mark) == "property" for mark in part.decorator_list)}
            if isinstance(node, ast.Attribute) and isinstance(node.ctx, ast.Store):
                attributes.add(node.attr)
        self.assertEqual(attributes & BARRED_ATTRIBUTES, set())
        self.assertEqual(own & (CHANGING | {"keys", "items", "values"}), set())
        self.assertEqual(own & attributes, set())
        for name, node in NODES:
            if isinstance(node, ast.Call) and isinstance(node.func, ast.Attribute):
                self.assertIn(node.func.attr, METHODS | own | {"sort"}, (name, node.lineno))
            elif isinstance(node, ast.Attribute) and isinstance(node.ctx, ast.Load):
                self.assertIn(node.attr, METHODS | own | attributes, (name, node.lineno))

    def test_classes(self):
        for name, node in NODES:
            if not isinstance(node, ast.ClassDef):
                continue
            methods = [part.name for part in node.body if isinstance(part, ast.FunctionDef)]
            self.assertEqual(len(methods), len(set(methods)), node.name)
            for method in methods:
                if method.startswith("__"):
                    self.assertIn(method.strip("_"), DUNDERS)
            if "__getitem__" in methods:
                self.assertIn("__iter__", methods)
            self.assertEqual(node.decorator_list, [])
        for name, node in NODES:
            if isinstance(node, ast.FunctionDef):
                for mark in node.decorator_list:
                    self.assertIn(ast.unparse(mark), ("property", "staticmethod", "classmethod"))

    def test_contexts(self):
        """What leaves a context only puts back what it has kept: it asks nothing."""
        found = 0
        for name, node in NODES:
            if isinstance(node, ast.FunctionDef) and node.name == "__exit__":
                found += 1
                self.assertEqual([arg.arg for arg in node.args.args], ["self", "kind", "value", "trace"])
                for row in node.body:
                    self.assertIsInstance(row, ast.Assign, (name, row.lineno))
                    self.assertIsInstance(row.targets[0], ast.Attribute, (name, row.lineno))
                    self.assertIsInstance(row.value, ast.Attribute, (name, row.lineno))
        self.assertEqual(found, 1)

    def test_errors(self):
        own = {node.name for file in ("errors.py", "faults.py") for node in SOURCES[file][1].body
               if isinstance(node, ast.ClassDef)}
        for name, node in NODES:
            if isinstance(node, ast.ExceptHandler):
                caught = {part.id for part in ast.walk(node.type) if isinstance(part, ast.Name)}
                self.assertLessEqual(caught, own | {"KeyError", "ZeroDivisionError"}, (name, node.lineno))
            if isinstance(node, ast.Raise) and node.exc is not None:
                self.assertIsInstance(node.exc, ast.Call, (name, node.lineno))
                self.assertIn(node.exc.func.id, own | {"TypeError"}, (name, node.lineno))


class PureTest(unittest.TestCase):
    """What operators run changes nothing but lists and dicts of its own."""

    def reached_functions(self):
        """All that operators and properties reach: functions and methods by their names, and __init__ of classes."""
        named = {}
        for name, node in NODES:
            if isinstance(node, ast.FunctionDef) and node.name != "__init__":
                named.setdefault(node.name, []).append((name, node))
            if isinstance(node, ast.ClassDef):
                # An __init__ assigns attributes of its own object: only what it calls is looked at.
                named.setdefault(node.name, []).extend(
                    (name, part) for part in node.body if isinstance(part, ast.FunctionDef) and part.name == "__init__")
        graph = {}
        for word in named:
            graph[word] = set()
            for _, node in named[word]:
                for call in ast.walk(node):
                    if isinstance(call, ast.Call):
                        target = call.func
                        called = target.id if isinstance(target, ast.Name) else target.attr
                        graph[word] |= {"Worth" if called == "cls" else called} & set(named)
        signs = {word for word in named if word.startswith("__")} - {"__call__", "__enter__", "__exit__"}
        for _, node in NODES:
            if isinstance(node, ast.FunctionDef) and node.decorator_list:
                if ast.unparse(node.decorator_list[0]) == "property":
                    signs.add(node.name)
        found = set(signs)
        for sign in signs:
            found |= reached(graph, sign)
        return [pair for word in found for pair in named[word] if pair[1].name != "__init__"]

    def test_operators_change_nothing(self):
        functions = self.reached_functions()
        self.assertIn("joined", [node.name for _, node in functions])
        for name, function in functions:
            lists = self.lists_of_its_own(function)
            for node in ast.walk(function):
                where = (name, getattr(node, "lineno", 0))
                if isinstance(node, ast.Attribute):
                    self.assertIsInstance(node.ctx, ast.Load, where)
                if isinstance(node, ast.Subscript) and not isinstance(node.ctx, ast.Load):
                    self.assertIn(ast.unparse(node.value), lists, where)
                if isinstance(node, ast.Call) and isinstance(node.func, ast.Attribute):
                    if node.func.attr in CHANGING:
                        self.assertIn(ast.unparse(node.func.value), lists, where)
                if isinstance(node, ast.AugAssign):
                    self.assertIsInstance(node.value, ast.Constant, where)
                if isinstance(node, ast.Call) and isinstance(node.func, ast.Name):
                    held = {arg.arg for arg in function.args.args} - {"cls"}
                    self.assertNotIn(node.func.id, held, where)

    def lists_of_its_own(self, function):
        found = set()
        for node in ast.walk(function):
            if isinstance(node, ast.Assign) and isinstance(node.targets[0], ast.Name):
                made = isinstance(node.value, (ast.List, ast.Dict, ast.ListComp))
                if isinstance(node.value, ast.Call) and isinstance(node.value.func, ast.Name):
                    made = node.value.func.id in ("list", "dict", "sorted")
                if made:
                    found.add(node.targets[0].id)
        return found


if __name__ == "__main__":
    unittest.main()
