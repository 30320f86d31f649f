"""The rules of the language that can be seen in the code of the package."""

import ast
import builtins
import pathlib
import re
import unittest

ROOT = pathlib.Path(__file__).resolve().parent.parent / "stairlots"
FILES = sorted(ROOT.rglob("*.py"))
ALLOWED_BUILTINS = set(
    "len range enumerate zip min max sum abs sorted reversed int str bool list tuple dict set isinstance ord repr any all "
    "divmod iter next property classmethod staticmethod NotImplemented Exception ValueError TypeError KeyError IndexError "
    "LookupError ArithmeticError OverflowError".split())
BARRED_NODES = (ast.Try, ast.Global, ast.AsyncFunctionDef, ast.Await, ast.With, ast.GeneratorExp, ast.Set, ast.Div,
                ast.Import, ast.AnnAssign, ast.Match, ast.NamedExpr, ast.YieldFrom)
BARRED_WORDS = re.compile(r"\b(type|typing|enum|Enum|Generic|Protocol|ABC|namedtuple|register|mro|elements|open|input|law|"
                          r"eval|exec|globals|locals|vars|dir|id|hash|object|chr|print|super|format|_wall)\b")
METHODS = set("append extend items get split join pop bit_length values setdefault rjust partition startswith".split())
CHANGES = {"append", "extend", "pop"}
OWN_KINDS = (ast.List, ast.ListComp, ast.Dict, ast.DictComp)
LIBRARY = {"math": {"gcd", "lcm", "factorial"}}
CHANGING_METHODS = set("append clear extend insert pop remove reverse setdefault sort update add discard".split())
# What goes through these goes over what they are passed, and what comes of other calls is new.
PASSING_ON = {"enumerate", "zip", "reversed", "iter"}
VIEWS = {"items", "keys", "values"}
MOST_EXPONENT = 64


def bound_names(function):
    """The parameters and local variables of a function."""
    spot = function.args
    names = [one.arg for one in spot.args + spot.kwonlyargs + [spot.vararg] if one]
    return names + [node.id for node in ast.walk(function)
                    if isinstance(node, ast.Name) and isinstance(node.ctx, ast.Store)]


def is_made_here(value):
    """Whether an expression makes a new list or dict."""
    if isinstance(value, OWN_KINDS):
        return True
    # A sign such as `*` or `+` does not plainly make one where classes of the package define it.
    return isinstance(value, ast.Call) and isinstance(value.func, ast.Name) and value.func.id in ("list", "dict", "sorted")


def is_empty_dict(value):
    """Whether an expression makes a new dict without keys."""
    return isinstance(value, ast.Dict) and not value.keys


def is_own_list_under_key(spot):
    """Whether an expression is `found.setdefault(key, [])`: a list that stands in a dict."""
    if not (isinstance(spot, ast.Call) and isinstance(spot.func, ast.Attribute) and spot.func.attr == "setdefault"):
        return False
    return isinstance(spot.func.value, ast.Name) and isinstance(spot.args[1], ast.List) and not spot.args[1].elts


def is_made_of_own(value):
    """Whether an expression makes a new list of new lists or dicts."""
    return isinstance(value, ast.ListComp) and isinstance(value.elt, OWN_KINDS)


def barred_exponents(tree):
    """The texts of the powers whose exponent is not written out as an integer from 0 to 64."""
    found = []
    for node in ast.walk(tree):
        if isinstance(node, ast.BinOp) and isinstance(node.op, ast.Pow):
            exponent = node.right
        elif isinstance(node, ast.AugAssign) and isinstance(node.op, ast.Pow):
            exponent = node.value
        else:
            continue
        number = getattr(exponent, "value", None)
        if not (isinstance(exponent, ast.Constant) and isinstance(number, int)) or isinstance(number, bool) \
                or not 0 <= number <= MOST_EXPONENT:
            found.append(ast.unparse(node))
    return found


def stands_for(value):
    """The texts of the names, fields and items that an expression may be, without a copy."""
    if isinstance(value, ast.IfExp):
        return stands_for(value.body) | stands_for(value.orelse)
    if isinstance(value, ast.BoolOp):
        return set().union(*[stands_for(part) for part in value.values])
    if isinstance(value, ast.Subscript) and isinstance(value.slice, ast.Slice) and isinstance(value.ctx, ast.Load):
        return set()
    if isinstance(value, (ast.Name, ast.Attribute, ast.Subscript)):
        return {ast.unparse(value)}
    return set()


def walks(value):
    """The texts of what a loop goes over, if this expression stands in its head."""
    if isinstance(value, ast.Call) and isinstance(value.func, ast.Name) and value.func.id in PASSING_ON:
        return set().union(*[walks(part) for part in value.args])
    if isinstance(value, ast.Call) and isinstance(value.func, ast.Attribute) and value.func.attr in VIEWS:
        return walks(value.func.value)
    if isinstance(value, ast.IfExp):
        return walks(value.body) | walks(value.orelse)
    if isinstance(value, ast.BoolOp):
        return set().union(*[walks(part) for part in value.values])
    return stands_for(value)


def pairs_of_names(target, value):
    """The pairs of texts that an assignment makes names of one value."""
    if isinstance(target, (ast.Tuple, ast.List)):
        if isinstance(value, (ast.Tuple, ast.List)) and len(target.elts) == len(value.elts):
            return [pair for one, other in zip(target.elts, value.elts) for pair in pairs_of_names(one, other)]
        return []
    return [(one, other) for one in stands_for(target) for other in stands_for(value)]


def same_lists(function):
    """The dict from each text to all texts that may stand for the same list or dict in a function."""
    found = {}
    for node in ast.walk(function):
        for target in node.targets if isinstance(node, ast.Assign) else []:
            for one, other in pairs_of_names(target, node.value):
                joined = found.get(one, {one}) | found.get(other, {other})
                found.update({text: joined for text in joined})
    return found


def changes_in(nodes):
    """The texts of what is changed in some statements or expressions."""
    found = set()
    for node in [inner for outer in nodes for inner in ast.walk(outer)]:
        if isinstance(node, ast.Call) and isinstance(node.func, ast.Attribute) and node.func.attr in CHANGING_METHODS:
            found |= stands_for(node.func.value)
        elif isinstance(node, ast.Subscript) and isinstance(node.ctx, (ast.Store, ast.Del)):
            found |= stands_for(node.value)
        elif isinstance(node, ast.AugAssign):
            found |= stands_for(node.target)
    return found


def loops_in(function):
    """The pairs of the heads and the rows of the loops and comprehensions in a function."""
    for node in ast.walk(function):
        if isinstance(node, ast.For):
            yield [node.iter], node.body
        elif isinstance(node, (ast.ListComp, ast.SetComp, ast.DictComp, ast.GeneratorExp)):
            yield [part.iter for part in node.generators], [node]


def changed_where_walked(function):
    """The texts of what a loop or a comprehension of a function goes over and, under some name, changes."""
    same = same_lists(function)
    found = set()
    for heads, rows in loops_in(function):
        changed = {text for one in changes_in(rows) for text in same.get(one, {one})}
        found |= changed & set().union(*[walks(head) for head in heads])
    return found


class LanguageTest(unittest.TestCase):
    def trees(self):
        texts = [path.read_text(encoding="ascii") for path in FILES]
        return [(path, text, ast.parse(text)) for path, text in zip(FILES, texts)]

    def functions(self):
        return [node for _, _, tree in self.trees() for node in ast.walk(tree) if isinstance(node, ast.FunctionDef)]

    def test_files(self):
        for path in ROOT.rglob("*"):
            if "__pycache__" in path.parts:
                continue
            self.assertTrue(path.is_dir() or path.suffix == ".py", path)
            if path.is_dir():
                self.assertTrue((path / "__init__.py").exists(), path)
                self.assertFalse((path.parent / (path.name + ".py")).exists(), path)
            self.assertRegex(path.stem, r"^(__init__|[a-z][a-z0-9_]*)$")

    def test_sizes(self):
        for path, text, tree in self.trees():
            lines = text.splitlines()
            self.assertLessEqual(len(lines), 399)
            self.assertEqual([line for line in lines if len(line) > 120 or "\t" in line], [], path)
            for node in ast.walk(tree):
                if isinstance(node, ast.FunctionDef):
                    self.assertLessEqual(node.end_lineno - node.lineno + 1, 40, node.name)
                    self.assertTrue(ast.get_docstring(node) or node.name.startswith("__"), node.name)

    def test_module_level(self):
        for path, text, tree in self.trees():
            names = []
            for node in tree.body:
                self.assertIsInstance(node, (ast.Expr, ast.ImportFrom, ast.FunctionDef, ast.ClassDef, ast.Assign))
                if isinstance(node, ast.Expr):
                    self.assertIs(node, tree.body[0])
                elif isinstance(node, ast.Assign):
                    names += [target.id for target in node.targets]
                elif isinstance(node, ast.ImportFrom):
                    names += [one.name for one in node.names]
                else:
                    names.append(node.name)
            self.assertEqual(len(names), len(set(names)))
            self.assertFalse(set(names) & set(dir(builtins)))

    def test_imports(self):
        for path, text, tree in self.trees():
            for node in ast.walk(tree):
                if not isinstance(node, ast.ImportFrom):
                    continue
                self.assertIn(node, tree.body)
                self.assertTrue(all(one.asname is None for one in node.names))
                names = {one.name for one in node.names}
                if node.module in LIBRARY:
                    self.assertLessEqual(names, LIBRARY[node.module])
                    continue
                source = ROOT.parent / (node.module.replace(".", "/") + ".py")
                there = ast.parse(source.read_text()).body
                defined = {one.name for one in there if isinstance(one, (ast.FunctionDef, ast.ClassDef))}
                defined |= {target.id for one in there if isinstance(one, ast.Assign) for target in one.targets}
                self.assertLessEqual(names, defined)

    def test_no_barred_words_or_statements(self):
        for path, text, tree in self.trees():
            documents = {id(node.body[0].value) for node in ast.walk(tree)
                         if isinstance(node, (ast.Module, ast.ClassDef, ast.FunctionDef)) and ast.get_docstring(node)}
            for node in ast.walk(tree):
                self.assertNotIsInstance(node, BARRED_NODES)
                if isinstance(node, ast.Constant):
                    self.assertIsInstance(node.value, (int, str, type(None)))
                    if isinstance(node.value, str):
                        self.assertNotIn("%", node.value)
                        if id(node) not in documents:
                            self.assertNotRegex(node.value, BARRED_WORDS)
                for name in (getattr(node, "id", ""), getattr(node, "attr", ""), getattr(node, "arg", ""),
                             getattr(node, "name", "")):
                    self.assertNotRegex(name or "", BARRED_WORDS)
                if isinstance(node, ast.Compare):
                    for sign, right in zip(node.ops, node.comparators):
                        if isinstance(sign, (ast.Is, ast.IsNot)):
                            self.assertIn(getattr(right, "value", right), (None, True, False))
                if isinstance(node, ast.AugAssign):
                    self.assertIsInstance(node.target, ast.Name)
                    self.assertIsInstance(node.value, ast.Constant)

    def test_builtins(self):
        for path, text, tree in self.trees():
            for node in ast.walk(tree):
                if isinstance(node, ast.Name) and hasattr(builtins, node.id):
                    self.assertIn(node.id, ALLOWED_BUILTINS)
                    self.assertIsInstance(node.ctx, ast.Load)

    def test_names(self):
        for path, text, tree in self.trees():
            taken = {one.name for node in tree.body if isinstance(node, ast.ImportFrom) for one in node.names}
            taken |= {node.name for node in tree.body if isinstance(node, ast.ClassDef)}
            for node in ast.walk(tree):
                if isinstance(node, ast.FunctionDef):
                    self.assertFalse(set(bound_names(node)) & (taken | set(dir(builtins))), node.name)

    def test_functions_change_only_what_they_make(self):
        for function in self.functions():
            values = {}
            for node in ast.walk(function):
                if isinstance(node, ast.Assign):
                    for target in node.targets:
                        for name in [one for one in ast.walk(target) if isinstance(getattr(one, "ctx", None), ast.Store)]:
                            if not isinstance(name, ast.Name):
                                continue
                            values.setdefault(name.id, []).append(node.value if name is target else None)
            for name, is_made in self.changed(function):
                # Plain results of own functions may not be changed; names that are unpacked may not either.
                self.assertTrue(name in values and all(is_made(value) for value in values[name]),
                                f"{name} in {function.name}")

    def changed(self, function):
        """The names of lists and dicts that a function changes, or whose items it changes, and what is to make them."""
        for node in ast.walk(function):
            if isinstance(node, ast.Call) and isinstance(node.func, ast.Attribute) and node.func.attr in CHANGES:
                spot = node.func.value
            elif isinstance(node, ast.Subscript) and isinstance(node.ctx, ast.Store):
                spot = node.value
            else:
                continue
            if isinstance(spot, ast.Subscript):
                self.assertIsInstance(spot.value, ast.Name)
                yield spot.value.id, is_made_of_own
            elif function.name == "_remember" and ast.unparse(spot) == "self._past":
                # A workshop is what changes.
                continue
            elif is_own_list_under_key(spot):
                yield spot.func.value.id, is_empty_dict
            else:
                self.assertIsInstance(spot, ast.Name)
                yield spot.id, is_made_here

    def test_exponents(self):
        for path, text, tree in self.trees():
            self.assertEqual(barred_exponents(tree), [], path)

    def test_barred_exponents_are_seen(self):
        for text in ("2 ** 65", "10 ** 120", "2 ** -1", "2 ** n", "2 ** True", "2 ** 3 ** 4", "a = (1, 9 ** (4 + 4))"):
            self.assertEqual(len(barred_exponents(ast.parse(text))), 1, text)
        self.assertEqual(barred_exponents(ast.parse("a **= 65")), ["a **= 65"])
        self.assertEqual(barred_exponents(ast.parse("a = [n ** 0, 10 ** 64, {**b}]\na **= 2\nf(**b)")), [])

    def test_loops_do_not_change_what_they_walk(self):
        for function in self.functions():
            self.assertEqual(changed_where_walked(function), set(), function.name)

    def test_changes_of_what_is_walked_are_seen(self):
        barred = (
            "for x in xs: xs.append(x)",
            "for k, x in enumerate(xs): xs[k] = x",
            "for x, y in zip(ys, reversed(xs)): del xs[0]",
            "for x in xs:\n  if x:\n    xs.pop()",
            "for k, x in xs.items(): xs.setdefault(x, [])",
            "for x in box.rows: box.rows.append(x)",
            "for x in xs[0]: xs[0].append(x)",
            "for x in (ys if ys else xs): xs.append(x)",
            "for x in ys or xs: xs.append(x)",
            "ys = xs\nfor x in xs: ys.append(x)",
            "ys = box.rows\nfor x in ys: box.rows.append(x)",
            "ys = xs if k else [1]\nfor x in xs: ys.append(x)",
            "ys = zs = xs\nfor x in zs: ys.append(x)",
            "ys, k = xs, 0\nfor x in xs: ys.append(x)",
            "[xs.pop() for x in xs if x]",
            "while k:\n  ys = []\n  for x in xs: ys.append(x)\n  xs = ys",
        )
        for text in barred:
            self.assertTrue(changed_where_walked(ast.parse(text)), text)
        allowed = (
            "for x in list(xs): xs.append(x)",
            "for x in xs: ys.append(x)",
            "for x in xs[1:]: xs.append(x)",
            "ys = xs[:]\nfor x in xs: ys.append(x)",
            "while k:\n  ys = []\n  for x in xs: ys.append(x)\n  xs = list(ys)",
        )
        for text in allowed:
            self.assertEqual(changed_where_walked(ast.parse(text)), set(), text)

    def test_double_underscore_methods(self):
        for function in self.functions():
            if function.name in ("__eq__", "__str__", "__len__", "__iter__", "__bool__", "__repr__"):
                self.assertIsInstance(function.body[-1], ast.Return, function.name)
                for node in ast.walk(function):
                    self.assertNotIsInstance(node, (ast.Assign, ast.AugAssign), function.name)
            if function.name in ("__str__", "__repr__"):
                for node in [one.value for one in ast.walk(function) if isinstance(one, ast.Return)]:
                    self.assertIsInstance(node, (ast.Constant, ast.JoinedStr, ast.Call))

    def test_methods_of_builtin_values(self):
        own = {function.name for function in self.functions()}
        for path, text, tree in self.trees():
            for node in ast.walk(tree):
                if isinstance(node, ast.Call) and isinstance(node.func, ast.Attribute):
                    self.assertIn(node.func.attr, METHODS | own)

    def test_interface_methods_stand_in_their_classes(self):
        wanted = {
            "Ratio": "read top bottom sign __add__ __sub__ __mul__ __neg__ over compared __eq__ __bool__ __str__",
            "Stair": "one single of read shape entries numbers tables lead __mul__ __invert__ power bracket led block beside "
                     "__eq__ __bool__ __len__ __str__",
            "Lot": "every shape makers chain leads __contains__ exponents member is_within __or__ __and__ index_in __eq__ "
                   "__len__ __bool__ __iter__ __str__",
            "Shadow": "lot modulus chain leads size __contains__ members __len__ __eq__ __str__",
            "Rest": "lot normal size kind least is_same order members are_alike alike_paper is_alike_paper __eq__ __str__",
            "LotMap": "lot images target kernel image graph __call__ forth back behind __eq__ __str__",
            "Polynomial": "variables terms value_at __add__ __sub__ __mul__ __eq__ __len__ __bool__ __str__",
            "Workshop": "put add take_out wish release undo shape lots wishes bars steps twin __contains__ __len__ __eq__ "
                        "__str__",
            "Book": "lot products powers brackets multiplied raised exchanged is_like __eq__ __len__ __str__",
        }
        found = {}
        for path, text, tree in self.trees():
            for node in tree.body:
                if isinstance(node, ast.ClassDef):
                    found[node.name] = {one.name for one in node.body if isinstance(one, ast.FunctionDef)}
        for name, methods in wanted.items():
            self.assertLessEqual(set(methods.split()), found[name], name)


if __name__ == "__main__":
    unittest.main()
