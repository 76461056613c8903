"""The package keeps to the small part of Python that the project allows: what of it a walk over the trees can see."""

import ast
import builtins
import pathlib
import re
import unittest

PACKAGE = pathlib.Path(__file__).resolve().parent.parent / "roadsall"

OWN_NAMES = set("""len range enumerate zip min max sum abs sorted reversed int str bool list tuple dict set frozenset
isinstance ord repr any all divmod Exception ValueError TypeError KeyError IndexError LookupError ZeroDivisionError
ArithmeticError OverflowError RuntimeError NotImplementedError AttributeError StopIteration""".split())
METHODS = set("""append clear copy count endswith extend find get index insert isalnum isalpha isdigit islower isspace
isupper items join keys ljust lower lstrip partition pop remove replace reverse rfind rjust rpartition rsplit rstrip
setdefault split splitlines startswith strip update upper values zfill bit_length""".split())
NO_NAMES = set("""register mro elements open input version_info with_traceback add_note attrgetter breakpoint compile
delattr dir eval exec exit gc getattr globals hasattr help id importlib license locals methodcaller os quit setattr super
vars sys format format_map copyright credits""".split())
NO_WORDS = re.compile(r"\b(type|typing|typing_extensions|enum|Enum|IntEnum|StrEnum|Flag|IntFlag|Generic|Protocol|ABC|ABCMeta"
                      r"|namedtuple|NamedTuple|TypedDict|TYPE_CHECKING|abstractmethod)\b|dataclass|overload|contextmanager")
SPECIAL = {"__init__", "__eq__", "__repr__", "__str__", "__len__"}
WALKED = {"zip", "enumerate", "reversed", "range"}
WALKERS = {"list", "tuple", "dict", "sorted", "sum", "any", "all", "enumerate", "zip", "min", "max"}
KEYWORDS = {"sorted": {"key", "reverse"}, "min": {"key", "default"}, "max": {"key", "default"}, "sum": {"start"},
            "enumerate": {"start"}, "zip": {"strict"}}
CHANGES = {"append", "clear", "extend", "insert", "pop", "remove", "reverse", "setdefault", "update"}
NO_NODES = (ast.With, ast.Match, ast.Delete, ast.Global, ast.Nonlocal, ast.Assert, ast.Yield, ast.YieldFrom, ast.AsyncFor,
            ast.AsyncWith, ast.AsyncFunctionDef, ast.Await, ast.SetComp, ast.DictComp, ast.GeneratorExp, ast.NamedExpr,
            ast.Starred, ast.Div, ast.MatMult, ast.AnnAssign, ast.Import, ast.TryStar)
PLAIN_TOP = (ast.FunctionDef, ast.ClassDef, ast.ImportFrom, ast.Assign)


def files():
    return sorted(PACKAGE.glob("*.py"))


class FormTest(unittest.TestCase):
    def each_node(self):
        for path in files():
            tree = ast.parse(path.read_text())
            for node in ast.walk(tree):
                for child in ast.iter_child_nodes(node):
                    child.above = node
            for node in ast.walk(tree):
                yield f"{path.name}:{getattr(node, 'lineno', 0)}", node

    def test_files_and_signs(self):
        found = [path.name for path in PACKAGE.iterdir() if path.name != "__pycache__"]
        self.assertEqual(sorted(found), [path.name for path in files()])
        for path in files():
            self.assertRegex(path.stem, r"^(__init__|[a-z][a-z0-9_]*)$")
            text = path.read_bytes().decode("ascii")
            self.assertNotRegex(text, r"[^\n -~]")
            self.assertIsNone(NO_WORDS.search(text), path.name)

    def test_sizes(self):
        for path in files():
            lines = path.read_text().split("\n")
            self.assertLessEqual(len(lines), 400, path.name)
            self.assertLessEqual(max(len(line) for line in lines), 120, path.name)
        for where, node in self.each_node():
            if isinstance(node, ast.FunctionDef):
                self.assertLessEqual(node.end_lineno - node.lineno + 1, 40, where)

    def test_tops(self):
        for path in files():
            body = ast.parse(path.read_text()).body
            self.assertIsInstance(body[0].value.value, str, path.name)
            for node in body[1:]:
                self.assertIsInstance(node, PLAIN_TOP, path.name)
            bound = [node.name for node in body if isinstance(node, (ast.FunctionDef, ast.ClassDef))]
            bound += [node.targets[0].id for node in body if isinstance(node, ast.Assign)]
            bound += [name.name for node in body if isinstance(node, ast.ImportFrom) for name in node.names]
            self.assertEqual(len(bound), len(set(bound)), path.name)

    def test_imports(self):
        drawn = {path.stem: set() for path in files()}
        for where, node in self.each_node():
            if isinstance(node, ast.ImportFrom):
                self.assertRegex(node.module, r"^roadsall\.[a-z0-9_]+$", where)
                self.assertEqual(node.level, 0, where)
                source = node.module.split(".")[1]
                drawn[where.split(".")[0]].add(source)
                top = ast.parse((PACKAGE / f"{source}.py").read_text()).body
                defined = [other.name for other in top if isinstance(other, (ast.FunctionDef, ast.ClassDef))]
                defined += [other.targets[0].id for other in top if isinstance(other, ast.Assign)]
                for name in node.names:
                    self.assertIn(name.name, defined, where)
                    self.assertIsNone(name.asname, where)
        self.assertEqual(drawn["__init__"], set())
        while drawn:
            free = [name for name in drawn if not drawn[name] & set(drawn)]
            self.assertNotEqual(free, [], "files that draw from one another")
            drawn = {name: drawn[name] for name in drawn if name not in free}

    def test_statements_and_expressions(self):
        for where, node in self.each_node():
            self.assertNotIsInstance(node, NO_NODES, where)
            if isinstance(node, (ast.For, ast.While)):
                self.assertEqual(node.orelse, [], where)
            if isinstance(node, ast.Try):
                self.assertEqual(node.finalbody, [], where)
                self.assertTrue(all(handler.type is not None for handler in node.handlers), where)
            if isinstance(node, ast.Assign):
                self.assertEqual(len(node.targets), 1, where)
            if isinstance(node, ast.ListComp):
                self.assertEqual(len(node.generators), 1, where)
                self.assertLessEqual(len(node.generators[0].ifs), 1, where)
            if isinstance(node, ast.FormattedValue):
                self.assertIsInstance(node.value, ast.Name, where)
                self.assertIsNone(node.format_spec, where)
            if isinstance(node, ast.Constant):
                self.assertNotIsInstance(node.value, (float, bytes, complex), where)
                self.assertNotIn("%", str(node.value), where)
            if isinstance(node, ast.Expr) and not isinstance(node.above, ast.Module):
                self.assertIsInstance(node.value, ast.Call, where)
            if isinstance(node, ast.Compare):
                for sign, side in zip(node.ops, node.comparators):
                    if isinstance(sign, (ast.Is, ast.IsNot)):
                        self.assertIn(getattr(side, "value", "no"), (None, True, False), where)

    def test_functions_and_classes(self):
        for where, node in self.each_node():
            if isinstance(node, (ast.FunctionDef, ast.Lambda)):
                given = node.args
                self.assertFalse(given.vararg or given.kwarg or given.kwonlyargs or given.posonlyargs, where)
            if isinstance(node, (ast.FunctionDef, ast.ClassDef)):
                self.assertEqual(node.decorator_list, [], where)
            if isinstance(node, ast.ClassDef):
                self.assertLessEqual(len(node.bases), 1, where)
                self.assertEqual(node.keywords, [], where)
                self.assertIsInstance(node.above, ast.Module, where)
                for part in node.body:
                    self.assertIsInstance(part, (ast.FunctionDef, ast.Pass), where)

    def test_names(self):
        for where, node in self.each_node():
            if isinstance(node, ast.Name):
                name = node.id
                self.assertNotIn(name, NO_NAMES, where)
                if isinstance(node.ctx, ast.Store):
                    self.assertFalse(hasattr(builtins, name), (where, name))
                elif hasattr(builtins, name):
                    self.assertIn(name, OWN_NAMES, where)
            elif isinstance(node, ast.arg):
                name = node.arg
                self.assertFalse(hasattr(builtins, name), (where, name))
            elif isinstance(node, ast.FunctionDef) and node.name not in SPECIAL:
                name = node.name
            else:
                continue
            self.assertRegex(name, r"^[A-Za-z][A-Za-z0-9_]*$", where)

    def test_methods(self):
        own = {node.name for _, node in self.each_node()
               if isinstance(node, ast.FunctionDef) and isinstance(node.above, ast.ClassDef)}
        kept = {node.attr for _, node in self.each_node()
                if isinstance(node, ast.Attribute) and isinstance(node.ctx, ast.Store)}
        self.assertEqual(own & kept, set())
        pythons = {name for kind in (str, int, list, dict, set, bytes, tuple) for name in dir(kind)}
        self.assertEqual(kept & pythons - {"count", "index", "title", "find", "get", "join", "lower", "upper", "split",
                                           "strip", "copy", "add"}, set())
        for where, node in self.each_node():
            if isinstance(node, ast.Attribute) and node.attr not in kept:
                self.assertIn(node.attr, METHODS | own, where)
                self.assertNotIn(node.attr, NO_NAMES, where)
                self.assertIsInstance(node.above, ast.Call, where)

    def test_walked_at_once(self):
        for where, node in self.each_node():
            if not isinstance(node, ast.Call):
                continue
            called = getattr(node.func, "id", getattr(node.func, "attr", ""))
            if called in WALKED or called in ("items", "keys", "values"):
                above = node.above
                good = isinstance(above, (ast.For, ast.comprehension)) and above.iter is node
                good = good or isinstance(above, ast.Call) and getattr(above.func, "id", "") in WALKERS
                self.assertTrue(good, where)
            if called in ("set", "frozenset"):
                self.assertTrue(isinstance(node.above, (ast.Compare, ast.BinOp)) or isinstance(node.above, ast.Call)
                                and getattr(node.above.func, "id", "") in ("len", "sorted"), where)

    def test_no_local_hides_a_name_of_its_file(self):
        for path in files():
            tree = ast.parse(path.read_text())
            tops = {node.name for node in tree.body if isinstance(node, (ast.FunctionDef, ast.ClassDef))}
            tops |= {node.targets[0].id for node in tree.body if isinstance(node, ast.Assign)}
            tops |= {name.name for node in tree.body if isinstance(node, ast.ImportFrom) for name in node.names}
            for top in tree.body:
                for node in ast.walk(top) if isinstance(top, (ast.FunctionDef, ast.ClassDef)) else ():
                    name = node.arg if isinstance(node, ast.arg) else ""
                    if isinstance(node, ast.Name) and isinstance(node.ctx, ast.Store):
                        name = node.id
                    self.assertNotIn(name, tops, f"{path.name}:{getattr(node, 'lineno', 0)}")

    def test_keywords(self):
        own = {node.name for _, node in self.each_node() if isinstance(node, (ast.FunctionDef, ast.ClassDef))}
        for where, node in self.each_node():
            if isinstance(node, ast.Call) and node.keywords and getattr(node.func, "id", "") not in own:
                called = getattr(node.func, "id", "")
                self.assertLessEqual({word.arg for word in node.keywords}, KEYWORDS.get(called, set()), where)

    def test_what_a_loop_walks_is_not_changed_in_it(self):
        for where, node in self.each_node():
            if not isinstance(node, ast.For):
                continue
            walked = {ast.dump(part) for part in ast.walk(node.iter) if isinstance(part, (ast.Name, ast.Attribute))}
            for part in [part for line in node.body for part in ast.walk(line)]:
                if isinstance(part, ast.Call) and getattr(part.func, "attr", "") in CHANGES:
                    self.assertNotIn(ast.dump(part.func.value), walked, where)
                if isinstance(part, ast.Subscript) and isinstance(part.ctx, ast.Store):
                    self.assertNotIn(ast.dump(part.value).replace("Store", "Load"), walked, where)

    def test_errors_are_raised_on_the_spot_and_taken_by_name(self):
        for where, node in self.each_node():
            if isinstance(node, ast.Raise):
                self.assertIsInstance(node.exc, ast.Call, where)
            if isinstance(node, ast.ExceptHandler):
                self.assertIsInstance(node.type, ast.Name, where)
                self.assertNotIn(node.type.id, ("Exception", "TypeError"), where)


if __name__ == "__main__":
    unittest.main()
