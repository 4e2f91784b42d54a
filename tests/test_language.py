"""Looks at the package's files by those rules of LANGUAGE.md that are plain to see."""

import ast
import builtins
import os
import unittest
import warnings

ROOT = os.path.dirname(os.path.dirname(os.path.abspath(__file__)))
PACKAGE = os.path.join(ROOT, "asnevertold")
LIBRARY = {
    "heapq": {"heappush", "heappop", "heapify", "heapreplace", "heappushpop"},
    "math": {"gcd", "lcm", "isqrt", "comb", "perm", "factorial"},
    "itertools": {"product", "combinations", "permutations", "chain", "accumulate", "pairwise", "islice",
                  "zip_longest"},
    "collections": {"defaultdict", "deque"},
}
BUILTINS = set(
    "len range enumerate zip map min max sum abs sorted reversed int str bool bytes list tuple dict set frozenset "
    "isinstance ord repr any all divmod pow getattr hasattr setattr iter next type super property staticmethod "
    "classmethod object Exception ValueError TypeError KeyError IndexError LookupError ZeroDivisionError "
    "ArithmeticError OverflowError RuntimeError NotImplementedError AttributeError StopIteration "
    "NotImplemented".split())
METHODS = set(
    "append clear copy count endswith extend find get index insert isalnum isalpha isdigit islower isspace isupper "
    "items join keys ljust lower lstrip partition pop remove replace reverse rfind rjust rpartition rsplit rstrip "
    "setdefault split splitlines startswith strip update upper values zfill bit_length sort add discard title "
    "capitalize swapcase casefold center expandtabs removeprefix removesuffix rindex isascii isdecimal isnumeric "
    "istitle isidentifier isprintable translate popleft appendleft extendleft rotate __init__".split())
BARRED = (ast.AsyncFunctionDef, ast.AsyncFor, ast.AsyncWith, ast.Await, ast.Import)
BARRED_SIGNS = (ast.Div, ast.MatMult)
BARRED_WORDS = set(
    "register mro elements open input law version_info with_traceback add_note attrgetter breakpoint builtins compile "
    "copyright credits delattr dir eval exec exit gc globals help id importlib license locals methodcaller os quit "
    "vars sys typing enum Enum namedtuple dataclass abstractmethod print chr _wall".split())


def files():
    """The package's files with their texts."""
    told = {}
    # What Python itself leaves there, where it is let, is no part of the package.
    for name in sorted(set(os.listdir(PACKAGE)) - {"__pycache__"}):
        with open(os.path.join(PACKAGE, name), encoding="utf-8", newline="") as file:
            told[name] = file.read()
    return told


FILES = files()
TREES = {name: ast.parse(text) for name, text in FILES.items()}
NODES = [(name, node) for name, tree in TREES.items() for node in ast.walk(tree)]
OWN = {node.name for _, node in NODES if isinstance(node, (ast.FunctionDef, ast.ClassDef))}


def is_plain(node):
    """Whether a value at module level is plain: no call, no comprehension, no list or dict within another."""
    inner = [one for one in ast.walk(node) if one is not node]
    return not any(isinstance(one, (ast.Call, ast.ListComp, ast.DictComp, ast.SetComp, ast.Set, ast.List, ast.Dict))
                   for one in inner) and not isinstance(node, (ast.Call, ast.ListComp, ast.DictComp))


class Language(unittest.TestCase):
    def each(self, kind):
        """Each part of this kind, with where it stands."""
        return [(f"{name}, line {node.lineno}", node) for name, node in NODES if isinstance(node, kind)]

    def test_files(self):
        self.assertIn("__init__.py", FILES)
        for name in FILES:
            self.assertRegex(name, r"^([a-z][a-z0-9_]*|__init__|__main__)\.py$")

    def test_size_and_signs(self):
        for name, text in FILES.items():
            with self.subTest(file=name):
                self.assertTrue(text.endswith("\n"))
                self.assertTrue(all(sign == "\n" or " " <= sign <= "~" for sign in text))
                lines = text.split("\n")
                self.assertLessEqual(len(lines), 400)
                self.assertLessEqual(max(len(line) for line in lines), 120)
        for place, node in self.each(ast.FunctionDef):
            self.assertLessEqual(node.end_lineno - node.lineno + 1, 40, place)

    def test_python_has_no_warning(self):
        for name, text in FILES.items():
            with warnings.catch_warnings():
                warnings.simplefilter("error")
                compile(text, name, "exec")

    def test_imports(self):
        for place, node in self.each(ast.ImportFrom):
            self.assertEqual((node.level, {alias.asname for alias in node.names}), (0, {None}), place)
            words = {alias.name for alias in node.names}
            if node.module in LIBRARY:
                self.assertLessEqual(words, LIBRARY[node.module], place)
                continue
            self.assertRegex(node.module, r"^asnevertold\.[a-z]+$", place)
            there = TREES[node.module.split(".")[1] + ".py"]
            bound = {one.name for one in there.body if isinstance(one, (ast.FunctionDef, ast.ClassDef))}
            bound |= {one.targets[0].id for one in there.body if isinstance(one, ast.Assign)}
            self.assertLessEqual(words, bound, place)

    def test_module_level(self):
        for name, tree in TREES.items():
            for place, node in enumerate(tree.body):
                with self.subTest(file=name, line=node.lineno):
                    if isinstance(node, ast.Expr):
                        self.assertEqual(place, 0)
                        self.assertIsInstance(node.value, ast.Constant)
                    elif isinstance(node, ast.Assign):
                        self.assertEqual([type(target) for target in node.targets], [ast.Name])
                        self.assertTrue(is_plain(node.value))
                    else:
                        self.assertIsInstance(node, (ast.FunctionDef, ast.ClassDef, ast.ImportFrom))

    def test_tables_of_functions_hold_those_defined_above(self):
        for name, tree in TREES.items():
            above = set()
            for node in tree.body:
                if isinstance(node, ast.FunctionDef):
                    above.add(node.name)
                if isinstance(node, ast.Assign):
                    held = {one.id for one in ast.walk(node.value) if isinstance(one, ast.Name)}
                    self.assertLessEqual(held, above, f"{name}, line {node.lineno}")

    def test_barred_parts(self):
        self.assertEqual(self.each(BARRED), [])
        for place, node in self.each((ast.BinOp, ast.AugAssign)):
            self.assertNotIsInstance(node.op, BARRED_SIGNS, place)
        for place, node in self.each(ast.Constant):
            self.assertNotIsInstance(node.value, (float, complex), place)
        for place, node in self.each(ast.ClassDef):
            self.assertEqual(node.decorator_list, [], place)

    def test_builtins(self):
        for place, node in self.each(ast.Name):
            if hasattr(builtins, node.id):
                self.assertIn(node.id, BUILTINS, place)
                self.assertIsInstance(node.ctx, ast.Load, place)
        for place, node in self.each(ast.arg):
            self.assertFalse(hasattr(builtins, node.arg), place)

    def test_barred_words(self):
        for place, node in self.each((ast.Name, ast.arg, ast.Attribute, ast.FunctionDef, ast.ClassDef, ast.keyword)):
            fields = [getattr(node, field, None) for field in ("id", "arg", "attr", "name")]
            self.assertEqual([word for word in fields if word in BARRED_WORDS], [], place)

    def test_no_name_has_two_meanings_in_a_file(self):
        for name, tree in TREES.items():
            nodes = list(ast.walk(tree))
            taken = {node.name for node in tree.body if isinstance(node, (ast.FunctionDef, ast.ClassDef))}
            taken |= {alias.name for node in nodes if isinstance(node, ast.ImportFrom) for alias in node.names}
            local = {node.arg for node in nodes if isinstance(node, ast.arg)}
            local |= {node.id for node in nodes if isinstance(node, ast.Name) and isinstance(node.ctx, ast.Store)}
            self.assertEqual(taken & local, set(), name)
            for node in nodes:
                if isinstance(node, ast.Name):
                    self.assertFalse(node.id == "_" and isinstance(node.ctx, ast.Load), name)

    def test_no_file_needs_itself(self):
        needs = {name[:-3]: {node.module.split(".")[1] for node in tree.body if isinstance(node, ast.ImportFrom)
                             and node.module not in LIBRARY} for name, tree in TREES.items()}
        while needs:
            free = {name for name in needs if not needs[name]}
            self.assertTrue(free, needs)
            needs = {name: more - free for name, more in needs.items() if name not in free}

    def test_no_generators_and_no_sort_in_place(self):
        self.assertEqual(self.each((ast.GeneratorExp, ast.Yield, ast.YieldFrom, ast.NamedExpr, ast.Global)), [])
        for place, node in self.each(ast.Attribute):
            self.assertNotEqual(node.attr, "sort", place)

    def test_is_stands_with_none_true_or_false_alone(self):
        for place, node in self.each(ast.Compare):
            for sign, side in zip(node.ops, node.comparators):
                if isinstance(sign, (ast.Is, ast.IsNot)):
                    self.assertTrue(isinstance(side, ast.Constant) and side.value in (None, True, False), place)

    def test_one_lambda_to_a_line(self):
        places = [place for place, _ in self.each(ast.Lambda)]
        self.assertEqual(len(places), len(set(places)))

    def test_sets_stand_in_sorted_or_len_alone(self):
        held = [id(node.args[0]) for _, node in NODES if isinstance(node, ast.Call) and node.args
                and isinstance(node.func, ast.Name) and node.func.id in ("sorted", "len") and not node.keywords]
        for place, node in self.each((ast.Set, ast.SetComp)):
            self.assertIn(id(node), held, place)
        for place, node in self.each(ast.Call):
            if isinstance(node.func, ast.Name) and node.func.id in ("set", "frozenset"):
                self.assertIn(id(node), held, place)

    def test_views_and_zips_are_gone_over_at_once(self):
        kinds = (ast.For, ast.comprehension)
        held = [id(node.iter) for _, node in NODES if isinstance(node, kinds)]
        held += [id(node.args[0]) for _, node in NODES if isinstance(node, ast.Call) and node.args
                 and isinstance(node.func, ast.Name) and node.func.id in ("list", "tuple", "sorted", "sum", "dict")]
        for place, node in self.each(ast.Call):
            word = getattr(node.func, "attr", getattr(node.func, "id", None))
            if word in ("zip", "enumerate", "range", "reversed", "items", "values", "keys", "map"):
                self.assertIn(id(node), held, place)

    def test_no_name_is_a_method_and_an_attribute(self):
        methods = {node.name for _, one in NODES if isinstance(one, ast.ClassDef) for node in one.body
                   if isinstance(node, ast.FunctionDef)}
        attributes = {node.attr for _, node in NODES if isinstance(node, ast.Attribute)
                      and isinstance(node.ctx, ast.Store)}
        self.assertEqual(methods & attributes, set())

    def test_double_underscores(self):
        for place, node in self.each(ast.FunctionDef):
            if node.name.startswith("__"):
                self.assertIn(node.name, ("__init__", "__len__", "__eq__"), place)
            if node.name in ("__len__", "__eq__"):
                self.assertEqual([type(one) for one in node.body], [ast.Return], place)

    def test_methods(self):
        for place, node in self.each(ast.Call):
            if isinstance(node.func, ast.Attribute):
                self.assertIn(node.func.attr, METHODS | OWN, place)

    def test_strings_have_no_per_cent(self):
        docs = [node.body[0].value for _, node in NODES
                if isinstance(node, (ast.Module, ast.ClassDef, ast.FunctionDef)) and isinstance(node.body[0], ast.Expr)]
        for place, node in self.each(ast.Constant):
            if isinstance(node.value, str) and node not in docs:
                self.assertNotIn("%", node.value, place)


if __name__ == "__main__":
    unittest.main()
