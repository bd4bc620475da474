"""The form of the code: what of the rules of the language can be seen in a file by itself."""

import ast
import builtins
import pathlib
import re
import unittest

FOLDER = pathlib.Path(__file__).resolve().parent.parent / "addnests"

BARRED_WORDS = """type typing typing_extensions enum Enum IntEnum StrEnum Flag IntFlag Generic Protocol ABC ABCMeta
namedtuple NamedTuple TypedDict TYPE_CHECKING abstractmethod dataclass overload contextmanager""".split()
BARRED_NAMES = """register mro elements open input law version_info with_traceback add_note attrgetter breakpoint
builtins compile copyright credits delattr dir eval exec exit gc getattr globals hasattr help id importlib license
locals methodcaller os quit setattr super type vars sys""".split()
BUILTINS = """len range enumerate zip min max sum abs sorted reversed int str bool list tuple dict set isinstance ord
repr any all divmod Exception ValueError TypeError KeyError IndexError LookupError ZeroDivisionError ArithmeticError
OverflowError RuntimeError NotImplementedError AttributeError StopIteration NotImplemented""".split()
METHODS = """append clear copy count endswith extend find get index insert isalnum isalpha isdigit islower isspace
isupper items join keys ljust lower lstrip partition pop remove replace reverse rfind rjust rpartition rsplit rstrip
setdefault split splitlines startswith strip update upper values zfill bit_length""".split()
BEHIND_OPERATORS = "errors.py families.py nests.py programs.py quotients.py sums.py vectors.py".split()
SPECIAL = """__init__ __eq__ __len__ __add__ __sub__ __mul__ __rmul__ __neg__ __contains__""".split()
BARRED_NODES = (
    ast.Global, ast.AsyncFunctionDef, ast.AsyncFor, ast.AsyncWith, ast.Await, ast.Div, ast.MatMult, ast.AnnAssign,
    ast.GeneratorExp, ast.Yield, ast.YieldFrom, ast.AugAssign, ast.SetComp, ast.Set, ast.Import, ast.Try,
)


def modules():
    """Each file of the package, with its text and its tree."""
    return [(path, path.read_text(), ast.parse(path.read_text())) for path in sorted(FOLDER.glob("*.py"))]


def names_given(tree):
    """All names that a file gives to something."""
    for node in ast.walk(tree):
        if isinstance(node, (ast.FunctionDef, ast.ClassDef)):
            yield node.name
        elif isinstance(node, ast.arg):
            yield node.arg
        elif isinstance(node, ast.Name) and isinstance(node.ctx, ast.Store):
            yield node.id
        elif isinstance(node, ast.Attribute) and isinstance(node.ctx, ast.Store):
            yield node.attr


def functions(tree):
    """All functions and methods of a file."""
    return [node for node in ast.walk(tree) if isinstance(node, ast.FunctionDef)]


class Form(unittest.TestCase):
    def test_files(self):
        inside = [path for path in FOLDER.iterdir() if path.name != "__pycache__"]
        self.assertTrue(all(re.fullmatch(r"[a-z_]+\.py", path.name) for path in inside))
        self.assertIn("__init__.py", [path.name for path in inside])

    def test_sizes_and_characters(self):
        for path, text, tree in modules():
            lines = text.split("\n")
            self.assertLessEqual(len(lines), 399)
            self.assertLessEqual(max(len(line) for line in lines), 120)
            self.assertRegex(text, r"\A[ -~\n]*\Z")
            for node in functions(tree):
                self.assertLessEqual(node.end_lineno - node.lineno + 1, 40, node.name)

    def test_words(self):
        for path, text, tree in modules():
            self.assertEqual(sorted(set(re.findall(r"\w+", text)) & set(BARRED_WORDS)), [])

    def test_names(self):
        for path, text, tree in modules():
            for name in names_given(tree):
                if name in SPECIAL:
                    continue
                self.assertRegex(name, r"\A[A-Za-z][A-Za-z0-9_]*\Z")
                self.assertNotIn(name, BARRED_NAMES)
                self.assertNotIn(name, dir(builtins))

    def test_one_name_one_meaning(self):
        for path, text, tree in modules():
            bound = [node.name for node in tree.body if isinstance(node, (ast.FunctionDef, ast.ClassDef))]
            bound += [target.id for node in tree.body if isinstance(node, ast.Assign) for target in node.targets]
            imports = [alias.name for node in tree.body if isinstance(node, ast.ImportFrom) for alias in node.names]
            self.assertEqual(len(set(bound + imports)), len(bound + imports))
            classes = [node.name for node in tree.body if isinstance(node, ast.ClassDef)]
            local = {name for node in functions(tree) for inner in node.body + [node.args] for name in names_given(inner)}
            self.assertEqual(sorted(local & set(imports + classes)), [])
            used = {node.id for node in ast.walk(tree) if isinstance(node, ast.Name)}
            self.assertEqual(sorted(set(imports) - used), [])

    def test_no_name_is_a_method_and_an_attribute(self):
        methods, attributes = set(), set()
        for path, text, tree in modules():
            for node in ast.walk(tree):
                if isinstance(node, ast.ClassDef):
                    methods |= {part.name for part in node.body if isinstance(part, ast.FunctionDef)}
                if isinstance(node, ast.Attribute) and isinstance(node.ctx, ast.Store):
                    attributes.add(node.attr)
        self.assertEqual(sorted(methods & attributes), [])

    def test_imports(self):
        for path, text, tree in modules():
            for node in ast.walk(tree):
                if isinstance(node, ast.ImportFrom):
                    self.assertIn(node, tree.body)
                    self.assertEqual(node.level, 0)
                    source = FOLDER / (node.module.removeprefix("addnests.") + ".py")
                    body = ast.parse(source.read_text()).body
                    defined = [getattr(part, "name", None) for part in body]
                    defined += [target.id for part in body if isinstance(part, ast.Assign) for target in part.targets]
                    for alias in node.names:
                        self.assertIn(alias.name, defined)
                        self.assertIsNone(alias.asname)

    def test_nodes(self):
        for path, text, tree in modules():
            for node in ast.walk(tree):
                self.assertNotIsInstance(node, BARRED_NODES)
                self.assertEqual(getattr(node, "decorator_list", []), [])
                self.assertIsNone(getattr(node, "returns", None))
                self.assertIsNone(getattr(node, "annotation", None))
                if isinstance(node, ast.Constant):
                    self.assertNotIsInstance(node.value, (float, complex, bytes))
                    self.assertNotIn("%", str(node.value))
                if isinstance(node, ast.Compare) and isinstance(node.ops[0], (ast.Is, ast.IsNot)):
                    self.assertIsInstance(node.comparators[0], ast.Constant)

    def test_calls(self):
        own = {node.name for path, text, tree in modules() for node in functions(tree)}
        for path, text, tree in modules():
            for node in ast.walk(tree):
                if isinstance(node, ast.Name) and node.id in dir(builtins):
                    self.assertIn(node.id, BUILTINS)
                if isinstance(node, ast.Call) and isinstance(node.func, ast.Attribute):
                    name = node.func.attr
                    self.assertTrue(name in own or name in METHODS or name == "__init__", name)

    def test_iterated_at_once(self):
        takers = "list tuple dict sorted sum any all enumerate zip min max".split()
        for path, text, tree in modules():
            at_once = []
            for node in ast.walk(tree):
                if isinstance(node, (ast.For, ast.comprehension)):
                    at_once.append(node.iter)
                if isinstance(node, ast.Call) and getattr(node.func, "id", None) in takers:
                    at_once += node.args[:1] + (node.args[1:] if node.func.id == "zip" else [])
            for node in ast.walk(tree):
                if isinstance(node, ast.Call):
                    named = getattr(node.func, "id", None) in ("zip", "enumerate", "reversed", "range")
                    if named or getattr(node.func, "attr", None) in ("items", "keys", "values"):
                        self.assertTrue(any(node is one for one in at_once), node.lineno)

    def test_only_own_dicts_and_lists_are_changed(self):
        # Operators, and all that they call, change nothing but what they created.
        made = (ast.List, ast.Dict, ast.ListComp)
        for path, text, tree in modules():
            for function in functions(tree) if path.name in BEHIND_OPERATORS else []:
                created = set()
                for node in ast.walk(function):
                    if isinstance(node, ast.Assign) and isinstance(node.targets[0], ast.Name):
                        called = isinstance(node.value, ast.Call) and getattr(node.value.func, "id", None)
                        if isinstance(node.value, made) or called in ("list", "dict", "sorted"):
                            created.add(node.targets[0].id)
                for node in ast.walk(function):
                    changed = None
                    if isinstance(node, ast.Subscript) and isinstance(node.ctx, (ast.Store, ast.Del)):
                        changed = node.value
                    if isinstance(node, ast.Call) and isinstance(node.func, ast.Attribute):
                        if node.func.attr in "append clear extend insert pop remove reverse setdefault update".split():
                            changed = node.func.value
                    if changed is not None:
                        self.assertIn(getattr(changed, "id", None), created, function.name)
                    if isinstance(node, ast.Attribute) and isinstance(node.ctx, ast.Store):
                        self.assertEqual(function.name, "__init__")


if __name__ == "__main__":
    unittest.main()
