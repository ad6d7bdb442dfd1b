"""The package keeps to its subset of Python, as far as a test can see it.

Where the subset allows something that the package does not need, the test is narrower than the subset.
"""

import ast
import builtins
import io
import os
import re
import tokenize
import unittest
import warnings

ROOT = os.path.join(os.path.dirname(os.path.dirname(os.path.abspath(__file__))), "outpressed")
LIBRARY = {"heapq": {"heappush", "heappop", "heapify"}, "math": {"gcd", "lcm", "isqrt"}}
BUILTINS = set("""len range enumerate zip min max sum abs sorted reversed int str bool list tuple dict set isinstance
    ord any all divmod iter ValueError property staticmethod super""".split())
VALUE_METHODS = set("""append clear copy count endswith extend find get index insert isalnum isalpha isdigit islower
    isspace isupper items join keys ljust lower lstrip partition pop remove replace reverse rfind rjust rpartition
    rsplit rstrip setdefault split splitlines startswith strip update upper values zfill bit_length""".split())
DOUBLE = set("""__init__ __eq__ __repr__ __str__ __len__ __call__ __iter__ __rshift__ __contains__ __invert__ __and__
    __or__ __sub__ __add__""".split())
BARRED = set("""mro elements open input law version_info with_traceback add_note register attrgetter breakpoint
    builtins compile copyright credits delattr dir eval exec exit gc getattr globals hasattr help id importlib license
    locals methodcaller os quit setattr type vars sys typing enum Enum Generic Protocol ABC namedtuple NamedTuple
    dataclass overload contextmanager abstractmethod _wall _WallAttr""".split())
NODES = (ast.Module, ast.ImportFrom, ast.alias, ast.FunctionDef, ast.ClassDef, ast.arguments, ast.arg, ast.Expr,
         ast.Assign, ast.AugAssign, ast.If, ast.While, ast.For, ast.Return, ast.Break, ast.Continue, ast.Pass,
         ast.Raise, ast.Delete, ast.Try, ast.ExceptHandler, ast.Constant, ast.Name, ast.Attribute, ast.Subscript,
         ast.Slice, ast.Call, ast.keyword, ast.Tuple, ast.List, ast.Dict, ast.ListComp, ast.DictComp, ast.SetComp,
         ast.comprehension, ast.BinOp, ast.BoolOp, ast.UnaryOp, ast.Compare, ast.IfExp, ast.JoinedStr,
         ast.FormattedValue, ast.Starred, ast.expr_context, ast.operator, ast.boolop, ast.unaryop, ast.cmpop)
OPERATORS = DOUBLE - {"__init__", "__call__", "__iter__"}
LIBRARY_WORDS = {word for words in LIBRARY.values() for word in words}
ON_THE_SPOT = {"zip", "enumerate", "reversed", "range", "items", "keys", "values"}
TAKERS = {"list", "tuple", "dict", "sorted", "sum", "any", "all", "enumerate", "zip", "min", "max"}
CHANGING = {"append", "clear", "extend", "insert", "pop", "remove", "reverse", "setdefault", "update"}


def sources():
    """The text of each file of the package by its module name."""
    told = {}
    for name in sorted(os.listdir(ROOT)):
        if name != "__pycache__":
            with open(os.path.join(ROOT, name), encoding="utf-8", newline="") as file:
                told[name] = file.read()
    return told


def called(node):
    """The name by which a call calls."""
    return node.func.id if isinstance(node.func, ast.Name) else node.func.attr


class LanguageTest(unittest.TestCase):
    @classmethod
    def setUpClass(cls):
        cls.sources = sources()
        with warnings.catch_warnings():
            warnings.simplefilter("error")
            cls.trees = {name: ast.parse(text) for name, text in cls.sources.items()}
        cls.nodes = [(name, node) for name, tree in cls.trees.items() for node in ast.walk(tree)]
        for name, node in cls.nodes:
            for child in ast.iter_child_nodes(node):
                child.parent = node
        cls.methods = {entry.name for name, node in cls.nodes if isinstance(node, ast.ClassDef)
                       for entry in node.body if isinstance(entry, ast.FunctionDef)}
        cls.assigned = {node.attr for name, node in cls.nodes
                        if isinstance(node, ast.Attribute) and isinstance(node.ctx, ast.Store)}

    def at(self, name, node):
        return f"{name}:{getattr(node, 'lineno', 0)}"

    def test_files(self):
        self.assertLessEqual(len(self.sources), 100)
        for name, text in self.sources.items():
            self.assertRegex(name, r"^([a-z][a-z0-9_]*|__init__|__main__)\.py$")
            self.assertNotIn(name[:-3], BARRED | set(dir(builtins)) | {"test", "tests", "site", "conftest"})
            self.assertIsNone(re.search(r"[^ -~\n]", text), name)
            rows = text.split("\n")
            self.assertLessEqual(len(rows), 399, name)
            self.assertLessEqual(max(map(len, rows)), 120, name)

    def test_nodes(self):
        for name, node in self.nodes:
            self.assertIsInstance(node, NODES, self.at(name, node))
            self.assertNotIsInstance(node, (ast.Div, ast.MatMult), self.at(name, node))
            if isinstance(node, ast.Constant):
                self.assertIsInstance(node.value, (int, str, type(None)), self.at(name, node))
            if isinstance(node, ast.Pow):
                self.assertIsInstance(node.parent.right, ast.Constant, self.at(name, node.parent))
            if isinstance(node, (ast.Is, ast.IsNot)):
                sides = [node.parent.left, *node.parent.comparators]
                self.assertTrue(any(isinstance(side, ast.Constant) and side.value in (None, True, False)
                                    for side in sides), self.at(name, node.parent))

    def test_module_level(self):
        for name, tree in self.trees.items():
            bound = []
            for place, node in enumerate(tree.body):
                if isinstance(node, ast.Expr):
                    self.assertTrue(place == 0 and isinstance(node.value.value, str), name)
                elif isinstance(node, ast.Assign):
                    self.assertEqual(1, len(node.targets))
                    ast.literal_eval(node.value)
                    bound.append(node.targets[0].id)
                elif isinstance(node, ast.ImportFrom):
                    bound += [alias.name for alias in node.names]
                else:
                    self.assertIsInstance(node, (ast.FunctionDef, ast.ClassDef))
                    bound.append(node.name)
            self.assertEqual(len(bound), len(set(bound)), name)
            for node in ast.walk(tree):
                if isinstance(node, ast.ClassDef):
                    self.assertIsInstance(node.parent, ast.Module)
                if isinstance(node, ast.FunctionDef):
                    self.assertIsInstance(node.parent, (ast.Module, ast.ClassDef))

    def test_imports(self):
        needs = {}
        for name, tree in self.trees.items():
            needs[name] = set()
            for node in ast.walk(tree):
                if not isinstance(node, ast.ImportFrom):
                    continue
                self.assertTrue(isinstance(node.parent, ast.Module) and node.level == 0)
                self.assertTrue(all(alias.asname is None for alias in node.names))
                names = {alias.name for alias in node.names}
                if node.module in LIBRARY:
                    self.assertLessEqual(names, LIBRARY[node.module])
                    continue
                self.assertTrue(node.module.startswith("outpressed."), name)
                needs[name].add(node.module[len("outpressed."):] + ".py")
                there = self.trees[node.module[len("outpressed."):] + ".py"]
                defined = {entry.name for entry in there.body if hasattr(entry, "name")}
                defined |= {entry.targets[0].id for entry in there.body if isinstance(entry, ast.Assign)}
                self.assertLessEqual(names, defined, name)
        done = set()
        while len(done) < len(needs):
            ready = [name for name in needs if name not in done and needs[name] <= done]
            self.assertTrue(ready, "imports in a ring")
            done.update(ready)

    def test_functions(self):
        for name, node in self.nodes:
            if not isinstance(node, ast.FunctionDef):
                continue
            self.assertLessEqual(node.end_lineno - node.lineno + 1, 40, self.at(name, node))
            for decorator in node.decorator_list:
                self.assertIn(decorator.id, ("staticmethod", "property"), self.at(name, node))
            if node.name.startswith("__"):
                self.assertIn(node.name, DOUBLE, self.at(name, node))
                self.assertIsInstance(node.parent, ast.ClassDef)
            if node.name == "__eq__":
                self.assertTrue(ast.unparse(node.body[0]).startswith("return isinstance(other, "))
            if node.name == "__init__":
                self.assertFalse([one for one in ast.walk(node) if isinstance(one, ast.Return)])
            if node.name == "__len__":
                self.assertRegex(ast.unparse(node.body[-1]), r"^return len\(")
            if node.name == "__iter__":
                self.assertRegex(ast.unparse(node.body), r"^return iter\(self\.\w+\)$")

    def test_names(self):
        for name, node in self.nodes:
            where = self.at(name, node)
            bound = []
            if isinstance(node, ast.Name):
                if isinstance(node.ctx, ast.Load):
                    self.assertNotEqual("_", node.id, where)
                    if node.id in dir(builtins):
                        self.assertIn(node.id, BUILTINS, where)
                else:
                    bound = [node.id]
            elif isinstance(node, (ast.FunctionDef, ast.ClassDef)):
                bound = [node.name]
            elif isinstance(node, ast.arg):
                bound = [node.arg]
            elif isinstance(node, ast.Attribute):
                self.assertNotIn(node.attr, {"mro", "elements", "open", "input", "law", "register", "format"}, where)
                self.assertFalse(node.attr.startswith("__") and node.attr != "__init__", where)
            for word in bound:
                self.assertNotIn(word, BARRED | set(dir(builtins)), where)
                if word not in DOUBLE and word != "_":
                    self.assertRegex(word, r"^_?[A-Za-z][A-Za-z0-9_]*$", where)
                    self.assertNotRegex(word, r"^_(wall|pe_|dcw_|enum_|cm_|twin_re_|lay_|law_|stub_|sre|WallAttr)",
                                        where)

    def test_locals_do_not_hide_classes_and_imports(self):
        for name, tree in self.trees.items():
            hidden = {alias.name for node in tree.body if isinstance(node, ast.ImportFrom) for alias in node.names}
            hidden |= {node.name for node in tree.body if isinstance(node, (ast.ClassDef, ast.FunctionDef))}
            for node in ast.walk(tree):
                word = None
                if isinstance(node, ast.Name) and isinstance(node.ctx, ast.Store):
                    word = node.id
                elif isinstance(node, ast.arg):
                    word = node.arg
                self.assertNotIn(word, hidden, self.at(name, node))

    def test_words_and_strings(self):
        for name, text in self.sources.items():
            for token in tokenize.generate_tokens(io.StringIO(text).readline):
                if token.type == tokenize.NAME:
                    self.assertNotIn(token.string, {"type", "typing", "enum", "ABC", "Protocol", "Generic"}, name)
                if token.type == tokenize.STRING:
                    self.assertNotIn("\x25", token.string, name)
                    self.assertIsNone(re.search(r"\\[^nt\\'\"]", token.string), name)
                    self.assertNotRegex(token.string, r"__")

    def test_calls(self):
        for name, node in self.nodes:
            if not isinstance(node, ast.Call):
                continue
            where = self.at(name, node)
            word = called(node)
            if isinstance(node.func, ast.Attribute):
                self.assertIn(word, VALUE_METHODS | self.methods, where)
            if isinstance(node.func, ast.Attribute) and word in VALUE_METHODS:
                self.assertEqual([], node.keywords, where)
            if word == "iter":
                self.assertIsInstance(node.parent, ast.Return, where)
            for entry in node.args:
                if isinstance(entry, ast.Starred):
                    # Only own methods are called with a star, and what is behind it has a plain name.
                    self.assertTrue(word in self.methods and isinstance(entry.value, ast.Name), where)
            if word in ON_THE_SPOT:
                parent = node.parent
                if isinstance(parent, (ast.For, ast.comprehension)):
                    self.assertEqual(parent.iter, node, where)
                else:
                    self.assertTrue(isinstance(parent, ast.Call) and called(parent) in TAKERS, where)
            for entry in node.keywords:
                if isinstance(node.func, ast.Name) and word in dir(builtins):
                    self.assertIn((word, entry.arg), {("sorted", "key"), ("sorted", "reverse"), ("min", "key"),
                                                      ("max", "key"), ("enumerate", "start"), ("sum", "start"),
                                                      ("min", "default"), ("max", "default")}, where)

    def test_sets_are_only_sorted_or_counted(self):
        for name, node in self.nodes:
            is_call = isinstance(node, ast.Call) and isinstance(node.func, ast.Name) and node.func.id == "set"
            if is_call or isinstance(node, ast.SetComp):
                self.assertTrue(isinstance(node.parent, ast.Call) and called(node.parent) in ("sorted", "len"),
                                self.at(name, node))

    def test_no_loop_changes_what_it_goes_over(self):
        for name, node in self.nodes:
            if not isinstance(node, ast.For):
                continue
            over = {ast.unparse(part) for part in ast.walk(node.iter) if isinstance(part, (ast.Name, ast.Attribute))}
            for inner in [part for statement in node.body for part in ast.walk(statement)]:
                changed = None
                if isinstance(inner, ast.Call) and isinstance(inner.func, ast.Attribute) and called(inner) in CHANGING:
                    changed = inner.func.value
                elif isinstance(inner, ast.Call) and called(inner) in ("heappush", "heappop"):
                    changed = inner.args[0]
                elif isinstance(inner, ast.Subscript) and not isinstance(inner.ctx, ast.Load):
                    changed = inner.value
                if changed is not None:
                    self.assertNotIn(ast.unparse(changed), over, self.at(name, inner))

    def test_operators_change_only_what_they_created(self):
        functions, todo = {}, []
        for name, node in self.nodes:
            if isinstance(node, ast.FunctionDef):
                owner = node.parent.name if isinstance(node.parent, ast.ClassDef) else None
                word = owner if node.name == "__init__" else node.name
                functions.setdefault(word, []).append((name, node))
                if node.name in OPERATORS or [one for one in node.decorator_list if one.id == "property"]:
                    todo.append((name, node))
        seen = []
        while todo:
            name, node = todo.pop()
            if node in seen:
                continue
            seen.append(node)
            self.check_changes(name, node)
            for call in ast.walk(node):
                if isinstance(call, ast.Call):
                    self.check_callee(name, node, call, functions)
                    todo += functions.get(called(call), [])
        self.assertGreater(len(seen), 25)

    def check_callee(self, name, function, call, functions):
        """What is called is neither passed nor held: no parameter, no local variable and no attribute."""
        word = called(call)
        self.assertIn(word, set(functions) | BUILTINS | VALUE_METHODS | LIBRARY_WORDS, self.at(name, call))
        if isinstance(call.func, ast.Name):
            own = {part.arg for part in ast.walk(function) if isinstance(part, ast.arg)}
            own |= {part.id for part in ast.walk(function)
                    if isinstance(part, ast.Name) and isinstance(part.ctx, ast.Store)}
            self.assertNotIn(word, own, self.at(name, call))
        else:
            # Where a class holds something by this name, a call of it might be a call of that.
            self.assertNotIn(word, self.assigned, self.at(name, call))

    def check_changes(self, name, function):
        """All changes go to a list or dict that a local variable is only ever assigned anew."""
        given = {}
        for node in ast.walk(function):
            if isinstance(node, ast.Assign):
                for target in node.targets:
                    for part in ast.walk(target):
                        if isinstance(part, ast.Name) and isinstance(part.ctx, ast.Store):
                            given.setdefault(part.id, []).append(node.value if part is target else None)
        for node in ast.walk(function):
            changed = None
            if isinstance(node, ast.Call) and isinstance(node.func, ast.Attribute) and node.func.attr in CHANGING:
                changed = node.func.value
            elif isinstance(node, ast.Call) and called(node) in ("heappush", "heappop"):
                changed = node.args[0]
            elif isinstance(node, ast.Subscript) and not isinstance(node.ctx, ast.Load):
                changed = node.value
            elif isinstance(node, ast.Attribute) and not isinstance(node.ctx, ast.Load):
                self.assertEqual(("__init__", "self"), (function.name, node.value.id), self.at(name, node))
            elif isinstance(node, ast.AugAssign):
                self.assertTrue(isinstance(node.target, ast.Name), self.at(name, node))
                simple = [isinstance(value, ast.Constant) for value in given[node.target.id]]
                self.assertTrue(isinstance(node.value, ast.Constant) or all(simple), self.at(name, node))
            if changed is None:
                continue
            if isinstance(changed, ast.Call):
                self.assertEqual("setdefault", called(changed))
                changed = changed.func.value
            if isinstance(changed, ast.Subscript):
                changed = changed.value
            self.assertIsInstance(changed, ast.Name, self.at(name, node))
            for value in given.get(changed.id, [None]):
                is_new = isinstance(value, (ast.List, ast.Dict, ast.ListComp, ast.DictComp)) or (
                    isinstance(value, ast.Call) and called(value) in ("list", "dict", "sorted")) or (
                    isinstance(value, ast.BinOp) and isinstance(value.left, ast.List))
                self.assertTrue(is_new, self.at(name, node))

    def test_only_own_errors_are_raised_and_caught(self):
        own = {node.name for node in self.trees["errors.py"].body if isinstance(node, ast.ClassDef)}
        for name, node in self.nodes:
            if isinstance(node, ast.Raise):
                self.assertTrue(isinstance(node.exc, ast.Call) and called(node.exc) in own, self.at(name, node))
            if isinstance(node, ast.ExceptHandler):
                kinds = node.type.elts if isinstance(node.type, ast.Tuple) else [node.type]
                self.assertLessEqual({kind.id for kind in kinds}, own, self.at(name, node))

    def test_attributes_are_assigned_and_are_no_methods(self):
        self.assertEqual(set(), self.assigned & (self.methods | VALUE_METHODS - {"count", "index", "find", "copy"}))
        for name, node in self.nodes:
            if isinstance(node, ast.Attribute) and isinstance(node.ctx, ast.Load):
                self.assertIn(node.attr, self.assigned | self.methods | VALUE_METHODS, self.at(name, node))


if __name__ == "__main__":
    unittest.main()
