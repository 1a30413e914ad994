"""The files of the package keep to the subset of the language, as far as a look at their text can tell.

It is narrower than the subset where the package needs no more: no generators, no stored sets, no f-strings, a try for
own errors alone.
"""

import ast
import builtins
import os
import unittest

PACKAGE = os.path.join(os.path.dirname(os.path.dirname(os.path.abspath(__file__))), "nosplit")
LIBRARY = {"heapq": {"heappush", "heappop", "heapify", "heapreplace", "heappushpop"},
           "math": {"gcd", "lcm", "isqrt", "comb", "perm", "factorial"},
           "itertools": {"product", "combinations", "permutations"}}
BUILTINS = set("""len range enumerate zip min max sum abs sorted reversed int str bool bytes list tuple dict set isinstance
    ord repr any all divmod Exception ValueError TypeError KeyError IndexError LookupError ZeroDivisionError ArithmeticError
    OverflowError RuntimeError NotImplementedError StopIteration NotImplemented""".split())
METHODS = set("""append clear copy count endswith extend find get index insert isalnum isalpha isdigit islower isspace isupper
    items join keys ljust lower lstrip partition pop remove replace reverse rfind rjust rpartition rsplit rstrip setdefault
    split splitlines startswith strip update upper values zfill bit_length""".split())
BARRED = set("""register mro elements open input law version_info with_traceback add_note attrgetter breakpoint builtins
    compile copyright credits delattr dir eval exec exit gc getattr globals hasattr help id importlib license locals
    methodcaller os quit setattr super type vars sys""".split())
WORDS = set("""type typing typing_extensions enum Enum IntEnum StrEnum Flag IntFlag Generic Protocol ABC ABCMeta namedtuple
    NamedTuple TypedDict TYPE_CHECKING abstractmethod""".split())
NODES = set("""Module Expr Constant Name Load Store Attribute Call Tuple List Dict Subscript Slice BinOp UnaryOp BoolOp Compare
    And Or Not Add Sub Mult FloorDiv Mod LShift RShift BitAnd BitOr BitXor USub Eq NotEq Lt LtE Gt GtE In NotIn Is IsNot IfExp
    Assign AugAssign Return If While For Break Continue Pass Raise FunctionDef ClassDef ImportFrom alias arguments arg
    ListComp DictComp SetComp comprehension Lambda keyword Starred Set Try ExceptHandler Delete Del""".split())
EATERS = set("list tuple dict sorted sum any all enumerate zip min max".split())
CHANGES = set("append clear extend insert pop remove reverse setdefault update".split())


def sources():
    found = {}
    for name in sorted(os.listdir(PACKAGE)):
        if name != "__pycache__":
            with open(os.path.join(PACKAGE, name), encoding="utf-8") as file:
                found[name] = file.read()
    return found


def parents(tree):
    found = {}
    for node in ast.walk(tree):
        for child in ast.iter_child_nodes(node):
            found[child] = node
    return found


def bound_names(tree):
    """Pairs of a name and the node that binds it: parameters, functions, classes, targets."""
    for node in ast.walk(tree):
        if isinstance(node, ast.arg):
            yield node.arg, node
        elif isinstance(node, (ast.FunctionDef, ast.ClassDef)):
            yield node.name, node
        elif isinstance(node, ast.Name) and isinstance(node.ctx, ast.Store):
            yield node.id, node


def called(node):
    return node.func.id if isinstance(node, ast.Call) and isinstance(node.func, ast.Name) else None


class Language(unittest.TestCase):
    @classmethod
    def setUpClass(cls):
        cls.texts = sources()
        cls.trees = {name: ast.parse(text) for name, text in cls.texts.items()}
        cls.own_methods = {node.name for tree in cls.trees.values() for owner in ast.walk(tree)
                           if isinstance(owner, ast.ClassDef) for node in owner.body if isinstance(node, ast.FunctionDef)}

    def go_through(self, check):
        for name, tree in self.trees.items():
            for node in ast.walk(tree):
                with self.subTest(file=name, line=getattr(node, "lineno", 0)):
                    check(name, tree, node)

    def test_files(self):
        for name, text in self.texts.items():
            with self.subTest(file=name):
                self.assertRegex(name, "^[a-z_0-9]+[.]py$")
                lines = text.split("\n")
                self.assertLessEqual(len(lines), 399)
                self.assertLessEqual(max(len(line) for line in lines), 120)
                self.assertTrue(all(sign == "\n" or " " <= sign <= "~" for sign in text))
                self.assertFalse(any(line != line.rstrip() for line in lines))

    def test_functions_are_short(self):
        def check(name, tree, node):
            if isinstance(node, ast.FunctionDef):
                self.assertLessEqual(node.end_lineno - node.lineno + 1, 40)
                self.assertEqual(node.decorator_list, [])
                self.assertIsNone(node.returns)

        self.go_through(check)

    def test_nodes(self):
        self.go_through(lambda name, tree, node: self.assertIn(type(node).__name__, NODES))

    def test_module_level(self):
        def check(name, tree, node):
            if isinstance(node, ast.Module):
                for at, part in enumerate(node.body):
                    plain = isinstance(part, ast.Assign) and len(part.targets) == 1 and isinstance(part.targets[0], ast.Name)
                    doc = at == 0 and isinstance(part, ast.Expr) and isinstance(part.value, ast.Constant)
                    self.assertTrue(doc or plain or isinstance(part, (ast.ImportFrom, ast.FunctionDef, ast.ClassDef)))
                    if plain:
                        self.check_value(part.value, [found for above in node.body[:at] for found in self.functions(above)])
                names = [found for part in node.body for found in self.binds(part)]
                self.assertEqual(len(names), len(set(names)))

        self.go_through(check)

    def functions(self, part):
        return [part.name] if isinstance(part, ast.FunctionDef) else []

    def check_value(self, value, functions):
        """A plain value, or a dict from words to functions that are defined above."""
        if isinstance(value, ast.Dict) and all(isinstance(part, ast.Name) for part in value.values):
            self.assertLessEqual({part.id for part in value.values}, set(functions))
            self.assertTrue(all(isinstance(ast.literal_eval(key), str) for key in value.keys))
            return
        plain = ast.literal_eval(value)
        for part in plain.values() if isinstance(plain, dict) else plain if isinstance(plain, (list, tuple)) else ():
            self.assertNotIsInstance(part, (list, dict))

    def binds(self, part):
        if isinstance(part, ast.ImportFrom):
            return [alias.name for alias in part.names]
        if isinstance(part, ast.Assign):
            return [part.targets[0].id]
        return [part.name] if isinstance(part, (ast.FunctionDef, ast.ClassDef)) else []

    def test_imports(self):
        ahead = {}
        for name, tree in self.trees.items():
            ahead[name] = []
            for node in ast.walk(tree):
                if isinstance(node, ast.ImportFrom):
                    self.assertEqual(node.level, 0)
                    self.assertTrue(all(alias.asname is None and alias.name != "*" for alias in node.names))
                    if node.module in LIBRARY:
                        self.assertLessEqual({alias.name for alias in node.names}, LIBRARY[node.module])
                        continue
                    self.assertTrue(node.module.startswith("nosplit."))
                    file = node.module[len("nosplit."):] + ".py"
                    ahead[name].append(file)
                    defined = [found for part in self.trees[file].body if not isinstance(part, ast.ImportFrom)
                               for found in self.binds(part)]
                    self.assertLessEqual({alias.name for alias in node.names}, set(defined))
        while ahead:
            free = [name for name in ahead if not any(other in ahead for other in ahead[name])]
            self.assertTrue(free, "files import from each other")
            ahead = {name: others for name, others in ahead.items() if name not in free}

    def test_imports_are_used(self):
        for name, tree in self.trees.items():
            used = {node.id for node in ast.walk(tree) if isinstance(node, ast.Name)}
            for part in tree.body:
                if isinstance(part, ast.ImportFrom):
                    self.assertLessEqual({alias.name for alias in part.names}, used, name)

    def test_names(self):
        for name, tree in self.trees.items():
            taken = {alias.name for part in tree.body if isinstance(part, ast.ImportFrom) for alias in part.names}
            taken |= {part.name for part in tree.body if isinstance(part, ast.ClassDef)}
            tops = set(tree.body)
            for bound, node in bound_names(tree):
                with self.subTest(file=name, line=node.lineno, name=bound):
                    method = isinstance(node, ast.FunctionDef) and bound in self.own_methods
                    self.assertTrue(method or not hasattr(builtins, bound))
                    self.assertNotIn(bound, BARRED)
                    if node not in tops:
                        self.assertNotIn(bound, taken)
                    if not method:
                        self.assertRegex(bound, "^(_|_?[a-zA-Z][a-zA-Z0-9_]*)$")
                        self.assertNotRegex(bound, "^_(wall|pe_|dcw_|enum_|cm_|twin_re_|lay_|law_|stub_|sre|cold|outside|record)")

    def test_known_names(self):
        for name, tree in self.trees.items():
            known = {found for part in tree.body for found in self.binds(part)} | {bound for bound, _ in bound_names(tree)}
            for node in ast.walk(tree):
                if isinstance(node, ast.Name) and isinstance(node.ctx, ast.Load):
                    self.assertIn(node.id, known | BUILTINS, name)
                    self.assertNotEqual(node.id, "_")

    def test_methods(self):
        def check(name, tree, node):
            if isinstance(node, ast.Call) and isinstance(node.func, ast.Attribute):
                self.assertIn(node.func.attr, METHODS | self.own_methods)
                if node.func.attr in METHODS:
                    self.assertEqual(node.keywords, [])
            if isinstance(node, ast.Attribute):
                self.assertNotIn(node.attr, METHODS - {"count", "index", "copy"} if isinstance(node.ctx, ast.Store) else ())

        self.go_through(check)

    def test_keywords_of_builtins(self):
        def check(name, tree, node):
            if called(node) in BUILTINS:
                allowed = {"sorted": {"key", "reverse"}, "min": {"key", "default"}, "max": {"key", "default"}}
                self.assertLessEqual({word.arg for word in node.keywords}, allowed.get(called(node), set()))

        self.go_through(check)

    def test_iterated_at_once(self):
        for name, tree in self.trees.items():
            above = parents(tree)
            for node in ast.walk(tree):
                lazy = called(node) in ("zip", "enumerate", "reversed", "range", "permutations", "combinations", "product")
                view = isinstance(node, ast.Call) and isinstance(node.func, ast.Attribute) and node.func.attr in (
                    "items", "keys", "values")
                if not lazy and not view:
                    continue
                parent = above[node]
                at_once = isinstance(parent, (ast.For, ast.comprehension)) and parent.iter is node
                eaten = called(parent) in EATERS and node in parent.args
                turned = called(node) == "range" and called(parent) == "reversed"
                kept = called(node) == "range" and isinstance(parent, ast.Assign)
                with self.subTest(file=name, line=node.lineno):
                    self.assertTrue(at_once or eaten or turned or kept)

    def test_sets(self):
        for name, tree in self.trees.items():
            above = parents(tree)
            for node in ast.walk(tree):
                if isinstance(node, (ast.Set, ast.SetComp)) or called(node) == "set":
                    with self.subTest(file=name, line=node.lineno):
                        parent = above[node]
                        self.assertTrue(isinstance(parent, ast.Compare)
                                        or called(parent) in ("sorted", "len") and not parent.keywords)

    def test_strings_and_signs(self):
        def check(name, tree, node):
            if isinstance(node, ast.Constant) and isinstance(node.value, str):
                self.assertNotIn("%", node.value)
                self.assertNotRegex(node.value, "^__.*__$|[.]_+$")
            if isinstance(node, ast.Compare):
                for sign, right in zip(node.ops, node.comparators):
                    if isinstance(sign, (ast.Is, ast.IsNot)):
                        self.assertIn(getattr(right, "value", 0), (None, True, False))
            if isinstance(node, ast.Call):
                self.assertFalse(any(isinstance(part, ast.Starred) for part in node.args))

        self.go_through(check)
        for name, text in self.texts.items():
            self.assertNotIn("\\", text.replace("\\n", ""), name)
            code = "\n".join(ast.unparse(part) for part in ast.walk(self.trees[name]) if isinstance(part, ast.stmt)
                             and not isinstance(part, (ast.FunctionDef, ast.ClassDef, ast.Expr)))
            words = "".join(sign if sign.isalnum() or sign == "_" else " " for sign in code).split()
            self.assertEqual([word for word in words if word in WORDS], [], name)

    def test_tables_are_looked_up_before_they_are_called(self):
        def check(name, tree, node):
            if isinstance(node, ast.Call):
                self.assertIsInstance(node.func, (ast.Name, ast.Attribute))

        self.go_through(check)

    def test_errors_that_are_caught(self):
        own = {part.name for part in self.trees["errors.py"].body if isinstance(part, ast.ClassDef)}

        def check(name, tree, node):
            if isinstance(node, ast.Try):
                self.assertEqual((node.orelse, node.finalbody, len(node.body)), ([], [], 1))
                self.assertLessEqual({handler.type.id for handler in node.handlers}, own)
                self.assertEqual([handler.name for handler in node.handlers if handler.name], [])

        self.go_through(check)

    def test_classes(self):
        # Objects are compared and counted: then no list is sorted in place, and nothing is kept in an odd way.
        allowed = {"__init__", "__len__", "__eq__"}
        for name, tree in self.trees.items():
            for node in tree.body:
                if isinstance(node, ast.ClassDef):
                    methods = [part.name for part in node.body if isinstance(part, ast.FunctionDef)]
                    kept = {part.attr for part in ast.walk(node) if isinstance(part, ast.Attribute) and
                            isinstance(part.ctx, ast.Store) and ast.unparse(part.value) == "self"}
                    with self.subTest(file=name, owner=node.name):
                        self.assertEqual(len(methods), len(set(methods)))
                        self.assertLessEqual({method for method in methods if method.startswith("_")}, allowed)
                        self.assertEqual(kept & set(methods), set())
                        self.assertTrue(all(isinstance(part, (ast.FunctionDef, ast.Expr)) for part in node.body))

    def test_loops_change_nothing_they_go_over(self):
        for name, tree in self.trees.items():
            for node in ast.walk(tree):
                if isinstance(node, ast.For):
                    over = {ast.unparse(part) for part in ast.walk(node.iter) if isinstance(part, (ast.Name, ast.Attribute))}
                    for part in [inner for statement in node.body for inner in ast.walk(statement)]:
                        with self.subTest(file=name, line=getattr(part, "lineno", 0)):
                            if isinstance(part, ast.Call) and isinstance(part.func, ast.Attribute) and part.func.attr in CHANGES:
                                self.assertNotIn(ast.unparse(part.func.value), over)
                            if isinstance(part, ast.Subscript) and isinstance(part.ctx, ast.Store):
                                self.assertNotIn(ast.unparse(part.value), over)

    def test_comprehensions_within_others(self):
        kinds = (ast.ListComp, ast.DictComp, ast.SetComp)
        for name, tree in self.trees.items():
            for outer in ast.walk(tree):
                if isinstance(outer, kinds):
                    mine = {part.id for made in outer.generators for part in ast.walk(made.target) if isinstance(part, ast.Name)}
                    for inner in ast.walk(outer):
                        if isinstance(inner, kinds) and inner is not outer:
                            theirs = {part.id for made in inner.generators for part in ast.walk(made.target)
                                      if isinstance(part, ast.Name)}
                            with self.subTest(file=name, line=inner.lineno):
                                self.assertEqual(mine & theirs, set())

    def test_inner_comprehensions_name_nobody_above_again(self):
        kinds = (ast.ListComp, ast.DictComp, ast.SetComp)
        for name, tree in self.trees.items():
            above = parents(tree)
            for function in ast.walk(tree):
                if isinstance(function, ast.FunctionDef):
                    own = {part.arg for part in function.args.args}
                    for part in ast.walk(function):
                        if isinstance(part, ast.Name) and isinstance(part.ctx, ast.Store):
                            place = part
                            while place is not function and not isinstance(place, (ast.comprehension, ast.Lambda)):
                                place = above[place]
                            if place is function:
                                own.add(part.id)
                    for made in ast.walk(function):
                        if isinstance(made, kinds) and self.is_within(made, function, above, kinds):
                            with self.subTest(file=name, line=made.lineno):
                                names = {part.id for one in made.generators for part in ast.walk(one.target)
                                         if isinstance(part, ast.Name)}
                                self.assertEqual((names & own) - {"_"}, set())

    def is_within(self, made, function, above, kinds):
        """Whether this comprehension stands in another one of the function."""
        place = above[made]
        while place is not function and not isinstance(place, kinds):
            place = above[place]
        return place is not function


if __name__ == "__main__":
    unittest.main()
