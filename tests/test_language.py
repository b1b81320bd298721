"""The files of the package keep to the small subset of the language in which they are written."""

import ast
import builtins
import os
import re
import unittest

HERE = os.path.join(os.path.dirname(os.path.abspath(__file__)), "..", "whoiswho")
CALLABLE = set("""len range enumerate zip min max sum abs sorted reversed int str bool list tuple dict set isinstance ord
    repr any all divmod""".split())
METHODS = set("""append clear copy count endswith extend find get index insert isalnum isalpha isdigit islower isspace
    isupper items join keys ljust lower lstrip partition pop remove replace reverse rfind rjust rpartition rsplit rstrip
    setdefault split splitlines startswith strip update upper values zfill bit_length""".split())
BARRED = set("""register mro elements open input law version_info with_traceback add_note attrgetter breakpoint builtins
    compile copyright credits delattr dir eval exec exit gc getattr globals hasattr help id importlib license locals
    methodcaller os quit setattr super type vars sys""".split())
WORDS = re.compile(r"\b(type|typing|typing_extensions|enum|Enum|IntEnum|StrEnum|Flag|IntFlag|Generic|Protocol|ABC|ABCMeta"
                   r"|namedtuple|NamedTuple|TypedDict|TYPE_CHECKING|abstractmethod)\b|dataclass|overload|contextmanager")
LAZY = {"range", "zip", "enumerate", "reversed", "items", "keys", "values"}
TAKES_LAZY = {"list", "tuple", "dict", "sorted", "sum", "any", "all", "enumerate", "zip", "min", "max"}
DUNDERS = {"__init__", "__eq__"}
OPERATORS = (ast.Div, ast.Pow, ast.MatMult)
BARRED_NODES = (ast.GeneratorExp, ast.Yield, ast.YieldFrom, ast.Await, ast.AsyncFunctionDef, ast.Global, ast.Nonlocal,
                ast.With, ast.Match, ast.NamedExpr, ast.Starred, ast.Delete, ast.Lambda, ast.Assert, ast.AnnAssign)


def sources():
    for name in sorted(os.listdir(HERE)):
        if name != "__pycache__":
            with open(os.path.join(HERE, name), encoding="utf-8", newline="") as file:
                yield name, file.read()


def parents_of(tree):
    found = {}
    for node in ast.walk(tree):
        for child in ast.iter_child_nodes(node):
            found[child] = node
    return found


def called(node):
    """The bare name or the method's name of a call."""
    if not isinstance(node, ast.Call):
        return None
    return node.func.id if isinstance(node.func, ast.Name) else getattr(node.func, "attr", None)


class LanguageTest(unittest.TestCase):
    def setUp(self):
        self.trees = {name: ast.parse(text) for name, text in sources()}
        self.texts = dict(sources())
        self.errors = {node.name for node in self.trees["errors.py"].body if isinstance(node, ast.ClassDef)}
        self.methods = {item.name for tree in self.trees.values() for node in tree.body if isinstance(node, ast.ClassDef)
                        for item in node.body if isinstance(item, ast.FunctionDef)}

    def nodes(self, *kinds):
        for name, tree in self.trees.items():
            for node in ast.walk(tree):
                if isinstance(node, kinds):
                    yield name, node

    def no(self, name, node, why):
        self.fail("%s:%s: %s" % (name, getattr(node, "lineno", 0), why))

    def test_files(self):
        for name, text in self.texts.items():
            self.assertRegex(name, r"^[a-z_]+\.py$")
            self.assertTrue(all(sign == "\n" or " " <= sign <= "~" for sign in text), name)
            lines = text.split("\n")
            self.assertLessEqual(len(lines) - 1, 399, name)
            self.assertLessEqual(max(map(len, lines)), 120, name)
            self.assertEqual(text.count("\n\n\n\n") + len([line for line in lines if line != line.rstrip()]), 0, name)
            self.assertNotRegex(text, r"_wall")

    def test_functions_are_small(self):
        for name, node in self.nodes(ast.FunctionDef):
            if node.end_lineno - node.lineno + 1 > 40:
                self.no(name, node, "more than 40 lines")
            if node.decorator_list or node.args.vararg or node.args.kwarg or node.args.kwonlyargs or node.args.defaults:
                self.no(name, node, "decorators, stars or defaults")
            if node.name.startswith("__") and node.name not in DUNDERS:
                self.no(name, node, "a double-underscore method")

    def test_imports(self):
        edges = {}
        for name, tree in self.trees.items():
            own = {node.name for node in tree.body if isinstance(node, (ast.FunctionDef, ast.ClassDef))}
            for node in ast.walk(tree):
                if isinstance(node, ast.Import):
                    self.no(name, node, "import")
                if isinstance(node, ast.ImportFrom):
                    self.assertRegex(node.module or "", r"^whoiswho\.[a-z]+$")
                    other = node.module.split(".")[1] + ".py"
                    edges.setdefault(name, []).append(other)
                    bound = {part.name for part in self.trees[other].body
                             if isinstance(part, (ast.FunctionDef, ast.ClassDef))}
                    for alias in node.names:
                        if alias.asname or alias.name not in bound or alias.name in own:
                            self.no(name, node, alias.name)
                        used = [part for part in ast.walk(tree) if isinstance(part, ast.Name) and part.id == alias.name]
                        if not used:
                            self.no(name, node, "%s is not used" % alias.name)
        done = []
        while len(done) < len(self.trees):
            ready = [name for name in self.trees if name not in done and set(edges.get(name, ())) <= set(done)]
            self.assertTrue(ready, "files import from each other")
            done += ready

    def test_module_level(self):
        for name, tree in self.trees.items():
            bound = []
            for at, node in enumerate(tree.body):
                if isinstance(node, ast.Expr) and at == 0 and isinstance(node.value, ast.Constant):
                    continue
                if isinstance(node, (ast.FunctionDef, ast.ClassDef)):
                    bound.append(node.name)
                elif isinstance(node, ast.ImportFrom):
                    bound += [alias.name for alias in node.names]
                elif isinstance(node, ast.Assign) and isinstance(node.targets[0], ast.Name) and len(node.targets) == 1:
                    bound.append(node.targets[0].id)
                    value = ast.literal_eval(node.value)
                    inner = value.values() if isinstance(value, dict) else value if isinstance(value, (list, tuple)) else ()
                    if any(isinstance(thing, (list, dict)) for thing in inner):
                        self.no(name, node, "a list or dict within")
                else:
                    self.no(name, node, "a statement at module level")
            self.assertEqual(len(bound), len(set(bound)), name)
            for node in ast.walk(tree):
                names = [node.arg] if isinstance(node, ast.arg) else \
                    [node.id] if isinstance(node, ast.Name) and isinstance(node.ctx, ast.Store) else []
                top = [part for part in tree.body if isinstance(part, ast.Assign) and node is part.targets[0]]
                if names and not top and names[0] in bound:
                    self.no(name, node, "a local name %s that the file binds" % names[0])

    def test_kinds_of_nodes(self):
        for name, node in self.nodes(*BARRED_NODES):
            if isinstance(node, ast.Lambda):
                body = node.body.elts if isinstance(node.body, ast.Tuple) else [node.body]
                items = [part.operand if isinstance(part, ast.UnaryOp) else part for part in body]
                if all(isinstance(item, ast.Subscript) and isinstance(item.slice, ast.Constant) for item in items):
                    continue
            if isinstance(node, ast.Delete) and all(isinstance(part, ast.Subscript) for part in node.targets):
                continue
            self.no(name, node, type(node).__name__)
        for name, node in self.nodes(ast.BinOp, ast.AugAssign):
            if isinstance(node.op, OPERATORS):
                self.no(name, node, "an operator")
        for name, node in self.nodes(ast.ClassDef):
            if node.decorator_list or node.keywords:
                self.no(name, node, "a decorated class")

    def test_strings(self):
        docs = set()
        for name, node in self.nodes(ast.Module, ast.ClassDef, ast.FunctionDef):
            first = node.body[0] if node.body else None
            if isinstance(first, ast.Expr) and isinstance(first.value, ast.Constant):
                docs.add(first.value)
        for name, node in self.nodes(ast.Constant):
            if isinstance(node.value, (float, complex, bytes)):
                self.no(name, node, "a float or bytes")
            if isinstance(node.value, str) and node not in docs:
                if "%" in node.value or WORDS.search(node.value) or "__" in node.value or node.value.endswith("._"):
                    self.no(name, node, "a string")

    def test_names(self):
        known = set(dir(builtins)) - {"_"}
        for name, node in self.nodes(ast.Name, ast.arg, ast.Attribute, ast.FunctionDef, ast.ClassDef):
            word = {ast.Name: "id", ast.arg: "arg", ast.Attribute: "attr"}.get(type(node), "name")
            word = getattr(node, word)
            if WORDS.search(word) or word in BARRED or word == "chr":
                self.no(name, node, word)
            if word.startswith("__") and word not in DUNDERS:
                self.no(name, node, word)
            binds = not isinstance(node, (ast.Name, ast.Attribute)) or isinstance(node, ast.Name) \
                and not isinstance(node.ctx, ast.Load)
            if binds and word in known:
                self.no(name, node, "%s has the name of a builtin" % word)
            if word == "_" and isinstance(node, ast.Name) and isinstance(node.ctx, ast.Load):
                self.no(name, node, "_ is read")

    def test_is_and_raise_and_except(self):
        for name, node in self.nodes(ast.Compare):
            for operator, side in zip(node.ops, node.comparators):
                if isinstance(operator, (ast.Is, ast.IsNot)) and not (isinstance(side, ast.Constant) and side.value is None):
                    self.no(name, node, "is")
        for name, node in self.nodes(ast.Raise):
            if not isinstance(node.exc, ast.Call) or called(node.exc) not in self.errors or node.exc.keywords:
                self.no(name, node, "raise")
        for name, node in self.nodes(ast.ExceptHandler):
            if not isinstance(node.type, ast.Name) or node.type.id not in self.errors:
                self.no(name, node, "except")

    def test_calls(self):
        for name, tree in self.trees.items():
            bound = {part.name for part in ast.walk(tree) if isinstance(part, (ast.FunctionDef, ast.ClassDef))}
            bound |= {alias.name for part in ast.walk(tree) if isinstance(part, ast.ImportFrom) for alias in part.names}
            for node in ast.walk(tree):
                if not isinstance(node, ast.Call):
                    continue
                word = called(node)
                if isinstance(node.func, ast.Name):
                    if word not in bound and word not in CALLABLE:
                        self.no(name, node, "calls %s" % word)
                    allowed = {"sorted": {"key"}, "max": {"default"}, "min": {"default"}}.get(word, set())
                    if {keyword.arg for keyword in node.keywords} - allowed:
                        self.no(name, node, "keywords")
                elif word not in METHODS | self.methods or node.keywords:
                    self.no(name, node, "calls method %s" % word)

    def test_functions_are_not_values(self):
        for name, tree in self.trees.items():
            parents = parents_of(tree)
            bound = {part.name for part in tree.body if isinstance(part, (ast.FunctionDef, ast.ClassDef))}
            bound |= {alias.name for part in ast.walk(tree) if isinstance(part, ast.ImportFrom) for alias in part.names}
            for node in ast.walk(tree):
                if isinstance(node, ast.Name) and (node.id in bound or node.id in CALLABLE):
                    over = parents[node]
                    fine = isinstance(over, ast.Call) and (over.func is node or called(over) == "isinstance")
                    fine = fine or isinstance(over, (ast.ClassDef, ast.ExceptHandler)) or isinstance(over, ast.keyword)
                    fine = fine or isinstance(over, ast.Tuple) and called(parents[over]) == "isinstance"
                    if not fine:
                        self.no(name, node, "%s as a value" % node.id)

    def test_sets(self):
        for name, tree in self.trees.items():
            parents = parents_of(tree)
            for node in ast.walk(tree):
                if isinstance(node, (ast.Set, ast.SetComp)) or called(node) in ("set", "frozenset"):
                    if called(parents[node]) not in ("sorted", "len") or parents[node].keywords:
                        self.no(name, node, "a set")

    def test_lazy_things_are_iterated_at_once(self):
        for name, tree in self.trees.items():
            parents = parents_of(tree)
            for node in ast.walk(tree):
                if called(node) in LAZY:
                    over = parents[node]
                    fine = isinstance(over, (ast.For, ast.comprehension)) and over.iter is node
                    fine = fine or called(over) in TAKES_LAZY
                    if not fine:
                        self.no(name, node, called(node))

    def test_nothing_is_changed_in_its_own_loop(self):
        changers = {"append", "extend", "insert", "pop", "remove", "clear", "update", "setdefault", "reverse"}
        for name, node in self.nodes(ast.For):
            over = {part.id for part in ast.walk(node.iter) if isinstance(part, ast.Name)}
            for part in ast.walk(ast.Module(node.body, [])):
                target = None
                if isinstance(part, ast.Call) and isinstance(part.func, ast.Attribute) and part.func.attr in changers:
                    target = part.func.value
                if isinstance(part, ast.Subscript) and not isinstance(part.ctx, ast.Load):
                    target = part.value
                while isinstance(target, ast.Subscript):
                    target = target.value
                if isinstance(target, ast.Name) and target.id in over and called(node.iter) != "range":
                    self.no(name, part, "changes %s in its loop" % target.id)


if __name__ == "__main__":
    unittest.main()
