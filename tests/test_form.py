"""The form of the package's files: what of the language's rules can be seen by a look at their trees."""

import ast
import builtins
import os
import unittest

import movegroups

FOLDER = os.path.dirname(os.path.abspath(movegroups.__file__))
OUTSIDE = {"math": {"gcd", "lcm", "isqrt", "comb", "perm", "factorial"}}
BUILTINS = set(
    "len range enumerate zip min max sum abs sorted reversed int str bool list tuple dict set isinstance ord repr any all "
    "divmod ValueError LookupError ArithmeticError super".split()
)
METHODS = set(
    "append clear copy count endswith extend find get index insert isalnum isalpha isdigit islower isspace isupper items "
    "join keys ljust lower lstrip partition pop remove replace reverse rfind rjust rpartition rsplit rstrip setdefault split "
    "splitlines startswith strip update upper values zfill bit_length isascii removeprefix removesuffix __init__".split()
)
BARRED = set(
    "register mro elements open input law type typing enum Enum Flag Generic Protocol ABC namedtuple eval exec exit id dir "
    "vars help hash compile quit license globals locals os sys".split()
)
TAKE_LISTS = {"any", "all", "min", "max", "sum", "sorted"}
INTERFACE = {
    "bounds": "MOST",
    "moves": "is_move rest then undo raised turns rounds sign show_move read_move",
    "words": "freed linked backed many_times rounded is_less show_word read_word",
    "rules": "Rules led broken",
    "cosets": "Cosets",
    "leasts": "leasts pairs led_down",
    "tables": "Table fault",
    "members": "times back power order_of commutator conjugate orders classes centralizer normalizer centre",
    "subs": "generated leading cosets is_normal subs kinds_of_subs normal_subs",
    "series": "derived derived_series lower_series",
    "quotients": "sub_table quotient product",
    "maps": "is_hom kernel image homs autos",
    "likeness": "counts likeness",
    "recipes": "made_by slimmed",
    "chains": "Moves",
    "extensions": "extension",
    "blocks": "orbits blocks stabilizer renamed united is_part closure",
    "turning": "table_of moves_of table_of_rules rules_of doing_of",
    "lists": "groups_of named",
    "doings": "doing_on core stayed orbits_of holders",
    "language": "show_group read_group group_of",
    "library": "Library",
    "judge": "holds",
    "papers": "paper_member paper_order paper_index paper_words paper_likeness paper_subs paper_list",
    "desk": "Desk",
}


def trees():
    for name in sorted(os.listdir(FOLDER)):
        if name != "__pycache__":
            with open(os.path.join(FOLDER, name), "rb") as file:
                text = file.read()
            yield name, text, ast.parse(text)


def defined(tree):
    """The names that a file itself defines at module level."""
    names = {node.name for node in tree.body if isinstance(node, (ast.FunctionDef, ast.ClassDef))}
    return names | {node.targets[0].id for node in tree.body if isinstance(node, ast.Assign)}


class FormTest(unittest.TestCase):
    def test_files(self):
        for name, text, _ in trees():
            self.assertRegex(name, r"\A(__init__|[a-z_]+)\.py\Z")
            self.assertLessEqual(len(text.splitlines()), 399, name)
            for line in text.split(b"\n"):
                self.assertLessEqual(len(line), 120, name)
                self.assertTrue(all(32 <= sign <= 126 for sign in line), (name, line))

    def test_functions_are_short(self):
        for name, _, tree in trees():
            for node in ast.walk(tree):
                if isinstance(node, ast.FunctionDef):
                    self.assertLessEqual(node.end_lineno - node.lineno + 1, 40, (name, node.name))
                    self.assertEqual(node.decorator_list, [], (name, node.name))

    def test_module_level(self):
        allowed = (ast.ImportFrom, ast.FunctionDef, ast.ClassDef, ast.Assign)
        for name, _, tree in trees():
            for node in tree.body:
                docstring = node is tree.body[0] and isinstance(node, ast.Expr)
                self.assertTrue(docstring or isinstance(node, allowed), (name, node.lineno))

    def test_imports(self):
        files = {f"movegroups.{name[:-3]}": tree for name, _, tree in trees()}
        uses = {}
        for name, tree in files.items():
            uses[name] = set()
            for node in ast.walk(tree):
                self.assertNotIsInstance(node, ast.Import, name)
                if isinstance(node, ast.ImportFrom):
                    self.assertEqual(node.level, 0)
                    names = {part.name for part in node.names}
                    self.assertTrue(all(part.asname is None for part in node.names), name)
                    if node.module in OUTSIDE:
                        self.assertLessEqual(names, OUTSIDE[node.module], name)
                    else:
                        self.assertLessEqual(names, defined(files[node.module]), name)
                        uses[name].add(node.module)
        while uses:
            free = [name for name, others in uses.items() if not others & set(uses)]
            self.assertTrue(free, f"files import each other: {sorted(uses)}")
            uses = {name: others for name, others in uses.items() if name not in free}

    def test_every_import_is_used(self):
        for name, _, tree in trees():
            taken = [part.name for node in tree.body if isinstance(node, ast.ImportFrom) for part in node.names]
            used = {node.id for node in ast.walk(tree) if isinstance(node, ast.Name)}
            self.assertLessEqual(set(taken), used, name)

    def test_names(self):
        named = set(vars(builtins))
        for name, _, tree in trees():
            for node in ast.walk(tree):
                bound = None
                if isinstance(node, ast.Name):
                    if node.id in named and isinstance(node.ctx, ast.Load):
                        self.assertIn(node.id, BUILTINS, (name, node.lineno))
                    elif not isinstance(node.ctx, ast.Load):
                        bound = node.id
                elif isinstance(node, ast.arg):
                    bound = node.arg
                elif isinstance(node, (ast.FunctionDef, ast.ClassDef)) and not node.name.startswith("__"):
                    bound = node.name
                if bound is not None:
                    self.assertNotIn(bound, named | BARRED, (name, node.lineno))

    def test_statements_and_signs(self):
        barred = (
            ast.Try, ast.Global, ast.Nonlocal, ast.AsyncFunctionDef, ast.Await, ast.Div, ast.Lambda, ast.With,
            ast.Yield, ast.YieldFrom, ast.GeneratorExp, ast.Pow, ast.AnnAssign, ast.Match,
        )
        for name, _, tree in trees():
            for node in ast.walk(tree):
                self.assertNotIsInstance(node, barred, (name, getattr(node, "lineno", 0)))
                if isinstance(node, ast.Constant):
                    self.assertNotIsInstance(node.value, float, name)
                if isinstance(node, ast.Compare) and any(isinstance(sign, (ast.Is, ast.IsNot)) for sign in node.ops):
                    self.assertIsInstance(node.comparators[0], ast.Constant, (name, node.lineno))

    def test_calls(self):
        own = set()
        for _, _, tree in trees():
            own |= {node.name for node in ast.walk(tree) if isinstance(node, ast.FunctionDef)}
        for name, _, tree in trees():
            for node in ast.walk(tree):
                if isinstance(node, ast.Call) and isinstance(node.func, ast.Attribute):
                    self.assertIn(node.func.attr, METHODS | own, (name, node.lineno))
                if isinstance(node, ast.Call) and isinstance(node.func, ast.Name) and node.func.id in TAKE_LISTS:
                    for given in node.args:
                        self.assertNotIsInstance(given, ast.GeneratorExp, (name, node.lineno))

    def test_words_that_no_file_has(self):
        for name, text, _ in trees():
            for word in (b"dataclass", b"overload", b"contextmanager", b"_wall", b"frozenset"):
                self.assertNotIn(word, text, name)

    def test_interface_stands_in_its_files(self):
        files = {name[:-3]: tree for name, _, tree in trees()}
        for name, names in INTERFACE.items():
            self.assertLessEqual(set(names.split()), defined(files[name]), name)


if __name__ == "__main__":
    unittest.main()
