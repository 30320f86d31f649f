"""The rules of the language that can be seen in the code of the package."""

import ast
import builtins
import pathlib
import re
import unittest

ROOT = pathlib.Path(__file__).resolve().parent.parent / "stairlots"
FILES = sorted(ROOT.rglob("*.py"))
ALLOWED_BUILTINS = set(
    "len range enumerate zip min max sum abs sorted reversed int str bool list tuple dict set isinstance ord repr any all "
    "divmod iter next property classmethod staticmethod NotImplemented Exception ValueError TypeError KeyError IndexError "
    "LookupError ArithmeticError OverflowError".split())
BARRED_NODES = (ast.Try, ast.Global, ast.AsyncFunctionDef, ast.Await, ast.With, ast.GeneratorExp, ast.Set, ast.Div,
                ast.Import, ast.AnnAssign, ast.Match, ast.NamedExpr, ast.YieldFrom)
BARRED_WORDS = re.compile(r"\b(type|typing|enum|Enum|Generic|Protocol|ABC|namedtuple|register|mro|elements|open|input|law|"
                          r"eval|exec|globals|locals|vars|dir|id|hash|object|chr|print|super|format|_wall)\b")
METHODS = set("append extend items get split join pop bit_length values setdefault rjust partition startswith".split())
CHANGES = {"append", "extend", "pop"}
OWN_KINDS = (ast.List, ast.ListComp, ast.Dict, ast.DictComp)
LIBRARY = {"math": {"gcd", "lcm", "factorial"}}


def bound_names(function):
    """The parameters and local variables of a function."""
    spot = function.args
    names = [one.arg for one in spot.args + spot.kwonlyargs + [spot.vararg] if one]
    return names + [node.id for node in ast.walk(function)
                    if isinstance(node, ast.Name) and isinstance(node.ctx, ast.Store)]


def is_made_here(value):
    """Whether an expression makes a new list or dict."""
    if isinstance(value, OWN_KINDS):
        return True
    # A sign such as `*` or `+` does not plainly make one where classes of the package define it.
    return isinstance(value, ast.Call) and isinstance(value.func, ast.Name) and value.func.id in ("list", "dict", "sorted")


def is_empty_dict(value):
    """Whether an expression makes a new dict without keys."""
    return isinstance(value, ast.Dict) and not value.keys


def is_own_list_under_key(spot):
    """Whether an expression is `found.setdefault(key, [])`: a list that stands in a dict."""
    if not (isinstance(spot, ast.Call) and isinstance(spot.func, ast.Attribute) and spot.func.attr == "setdefault"):
        return False
    return isinstance(spot.func.value, ast.Name) and isinstance(spot.args[1], ast.List) and not spot.args[1].elts


def is_made_of_own(value):
    """Whether an expression makes a new list of new lists or dicts."""
    return isinstance(value, ast.ListComp) and isinstance(value.elt, OWN_KINDS)


class LanguageTest(unittest.TestCase):
    def trees(self):
        texts = [path.read_text(encoding="ascii") for path in FILES]
        return [(path, text, ast.parse(text)) for path, text in zip(FILES, texts)]

    def functions(self):
        return [node for _, _, tree in self.trees() for node in ast.walk(tree) if isinstance(node, ast.FunctionDef)]

    def test_files(self):
        for path in ROOT.rglob("*"):
            if "__pycache__" in path.parts:
                continue
            self.assertTrue(path.is_dir() or path.suffix == ".py", path)
            if path.is_dir():
                self.assertTrue((path / "__init__.py").exists(), path)
                self.assertFalse((path.parent / (path.name + ".py")).exists(), path)
            self.assertRegex(path.stem, r"^(__init__|[a-z][a-z0-9_]*)$")

    def test_sizes(self):
        for path, text, tree in self.trees():
            lines = text.splitlines()
            self.assertLessEqual(len(lines), 399)
            self.assertEqual([line for line in lines if len(line) > 120 or "\t" in line], [], path)
            for node in ast.walk(tree):
                if isinstance(node, ast.FunctionDef):
                    self.assertLessEqual(node.end_lineno - node.lineno + 1, 40, node.name)
                    self.assertTrue(ast.get_docstring(node) or node.name.startswith("__"), node.name)

    def test_module_level(self):
        for path, text, tree in self.trees():
            names = []
            for node in tree.body:
                self.assertIsInstance(node, (ast.Expr, ast.ImportFrom, ast.FunctionDef, ast.ClassDef, ast.Assign))
                if isinstance(node, ast.Expr):
                    self.assertIs(node, tree.body[0])
                elif isinstance(node, ast.Assign):
                    names += [target.id for target in node.targets]
                elif isinstance(node, ast.ImportFrom):
                    names += [one.name for one in node.names]
                else:
                    names.append(node.name)
            self.assertEqual(len(names), len(set(names)))
            self.assertFalse(set(names) & set(dir(builtins)))

    def test_imports(self):
        for path, text, tree in self.trees():
            for node in ast.walk(tree):
                if not isinstance(node, ast.ImportFrom):
                    continue
                self.assertIn(node, tree.body)
                self.assertTrue(all(one.asname is None for one in node.names))
                names = {one.name for one in node.names}
                if node.module in LIBRARY:
                    self.assertLessEqual(names, LIBRARY[node.module])
                    continue
                source = ROOT.parent / (node.module.replace(".", "/") + ".py")
                there = ast.parse(source.read_text()).body
                defined = {one.name for one in there if isinstance(one, (ast.FunctionDef, ast.ClassDef))}
                defined |= {target.id for one in there if isinstance(one, ast.Assign) for target in one.targets}
                self.assertLessEqual(names, defined)

    def test_no_barred_words_or_statements(self):
        for path, text, tree in self.trees():
            documents = {id(node.body[0].value) for node in ast.walk(tree)
                         if isinstance(node, (ast.Module, ast.ClassDef, ast.FunctionDef)) and ast.get_docstring(node)}
            for node in ast.walk(tree):
                self.assertNotIsInstance(node, BARRED_NODES)
                if isinstance(node, ast.Constant):
                    self.assertIsInstance(node.value, (int, str, type(None)))
                    if isinstance(node.value, str):
                        self.assertNotIn("%", node.value)
                        if id(node) not in documents:
                            self.assertNotRegex(node.value, BARRED_WORDS)
                for name in (getattr(node, "id", ""), getattr(node, "attr", ""), getattr(node, "arg", ""),
                             getattr(node, "name", "")):
                    self.assertNotRegex(name or "", BARRED_WORDS)
                if isinstance(node, ast.Compare):
                    for sign, right in zip(node.ops, node.comparators):
                        if isinstance(sign, (ast.Is, ast.IsNot)):
                            self.assertIn(getattr(right, "value", right), (None, True, False))
                if isinstance(node, ast.AugAssign):
                    self.assertIsInstance(node.target, ast.Name)
                    self.assertIsInstance(node.value, ast.Constant)
                if isinstance(node, ast.BinOp) and isinstance(node.op, ast.Pow):
                    self.assertIsInstance(node.right, ast.Constant)

    def test_builtins(self):
        for path, text, tree in self.trees():
            for node in ast.walk(tree):
                if isinstance(node, ast.Name) and hasattr(builtins, node.id):
                    self.assertIn(node.id, ALLOWED_BUILTINS)
                    self.assertIsInstance(node.ctx, ast.Load)

    def test_names(self):
        for path, text, tree in self.trees():
            taken = {one.name for node in tree.body if isinstance(node, ast.ImportFrom) for one in node.names}
            taken |= {node.name for node in tree.body if isinstance(node, ast.ClassDef)}
            for node in ast.walk(tree):
                if isinstance(node, ast.FunctionDef):
                    self.assertFalse(set(bound_names(node)) & (taken | set(dir(builtins))), node.name)

    def test_functions_change_only_what_they_make(self):
        for function in self.functions():
            values = {}
            for node in ast.walk(function):
                if isinstance(node, ast.Assign):
                    for target in node.targets:
                        for name in [one for one in ast.walk(target) if isinstance(getattr(one, "ctx", None), ast.Store)]:
                            if not isinstance(name, ast.Name):
                                continue
                            values.setdefault(name.id, []).append(node.value if name is target else None)
            for name, is_made in self.changed(function):
                # Plain results of own functions may not be changed; names that are unpacked may not either.
                self.assertTrue(name in values and all(is_made(value) for value in values[name]),
                                f"{name} in {function.name}")

    def changed(self, function):
        """The names of lists and dicts that a function changes, or whose items it changes, and what is to make them."""
        for node in ast.walk(function):
            if isinstance(node, ast.Call) and isinstance(node.func, ast.Attribute) and node.func.attr in CHANGES:
                spot = node.func.value
            elif isinstance(node, ast.Subscript) and isinstance(node.ctx, ast.Store):
                spot = node.value
            else:
                continue
            if isinstance(spot, ast.Subscript):
                self.assertIsInstance(spot.value, ast.Name)
                yield spot.value.id, is_made_of_own
            elif function.name == "_remember" and ast.unparse(spot) == "self._past":
                # A workshop is what changes.
                continue
            elif is_own_list_under_key(spot):
                yield spot.func.value.id, is_empty_dict
            else:
                self.assertIsInstance(spot, ast.Name)
                yield spot.id, is_made_here

    def test_double_underscore_methods(self):
        for function in self.functions():
            if function.name in ("__eq__", "__str__", "__len__", "__iter__", "__bool__", "__repr__"):
                self.assertIsInstance(function.body[-1], ast.Return, function.name)
                for node in ast.walk(function):
                    self.assertNotIsInstance(node, (ast.Assign, ast.AugAssign), function.name)
            if function.name in ("__str__", "__repr__"):
                for node in [one.value for one in ast.walk(function) if isinstance(one, ast.Return)]:
                    self.assertIsInstance(node, (ast.Constant, ast.JoinedStr, ast.Call))

    def test_methods_of_builtin_values(self):
        own = {function.name for function in self.functions()}
        for path, text, tree in self.trees():
            for node in ast.walk(tree):
                if isinstance(node, ast.Call) and isinstance(node.func, ast.Attribute):
                    self.assertIn(node.func.attr, METHODS | own)

    def test_interface_methods_stand_in_their_classes(self):
        wanted = {
            "Ratio": "read top bottom sign __add__ __sub__ __mul__ __neg__ over compared __eq__ __bool__ __str__",
            "Stair": "one single of read shape entries numbers tables lead __mul__ __invert__ power bracket led block beside "
                     "__eq__ __bool__ __len__ __str__",
            "Lot": "every shape makers chain leads __contains__ exponents member is_within __or__ __and__ index_in __eq__ "
                   "__len__ __bool__ __iter__ __str__",
            "Shadow": "lot modulus chain leads size __contains__ members __len__ __eq__ __str__",
            "Rest": "lot normal size kind least is_same order members are_alike alike_paper is_alike_paper __eq__ __str__",
            "LotMap": "lot images target kernel image graph __call__ forth back behind __eq__ __str__",
            "Polynomial": "variables terms value_at __add__ __sub__ __mul__ __eq__ __len__ __bool__ __str__",
            "Workshop": "put add take_out wish release undo shape lots wishes bars steps twin __contains__ __len__ __eq__ "
                        "__str__",
            "Book": "lot products powers brackets multiplied raised exchanged is_like __eq__ __len__ __str__",
        }
        found = {}
        for path, text, tree in self.trees():
            for node in tree.body:
                if isinstance(node, ast.ClassDef):
                    found[node.name] = {one.name for one in node.body if isinstance(one, ast.FunctionDef)}
        for name, methods in wanted.items():
            self.assertLessEqual(set(methods.split()), found[name], name)


if __name__ == "__main__":
    unittest.main()
