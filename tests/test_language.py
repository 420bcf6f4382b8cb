"""The rules of the language that can be read off the files of the package."""

import ast
import re
import unittest
from pathlib import Path

PACKAGE = Path(__file__).resolve().parent.parent / "fewforests"
FILES = sorted(PACKAGE.glob("*.py"))
BUILTINS = set("""len range enumerate zip min max sum abs sorted reversed int str bool bytes list tuple dict set
frozenset isinstance ord repr any all divmod iter next Exception ValueError TypeError KeyError IndexError LookupError
ZeroDivisionError ArithmeticError OverflowError RuntimeError NotImplementedError AttributeError StopIteration
NotImplemented""".split())
METHODS = set("""append clear copy count endswith extend find get index insert isalnum isalpha isdigit islower isspace
isupper items join keys ljust lower lstrip partition pop remove replace reverse rfind rjust rpartition rsplit rstrip
setdefault split splitlines startswith strip update upper values zfill bit_length sort add discard isascii
isdecimal""".split())
PYTHON_NAMES = set(dir(__builtins__)) if not isinstance(__builtins__, dict) else set(__builtins__)
BARRED = """type typing typing_extensions enum Enum IntEnum StrEnum Flag IntFlag Generic Protocol ABC ABCMeta
namedtuple NamedTuple TypedDict TYPE_CHECKING abstractmethod""".split()
BARRED_NAMES = set("register mro elements open input version_info with_traceback add_note".split())


def trees():
    return [(path, ast.parse(path.read_text())) for path in FILES]


def nodes(kind):
    return [(path, node) for path, tree in trees() for node in ast.walk(tree) if isinstance(node, kind)]


def imports(tree):
    return [node for node in ast.walk(tree) if isinstance(node, (ast.Import, ast.ImportFrom))]


class Language(unittest.TestCase):

    def test_files(self):
        kept = [path for path in PACKAGE.iterdir() if path.name != "__pycache__"]
        self.assertEqual(sorted(kept), FILES)
        for path in FILES:
            self.assertTrue(path.stem == "__init__" or re.fullmatch("[a-z][a-z0-9_]*", path.stem))
            self.assertNotIn(path.stem, PYTHON_NAMES)
            self.assertFalse(path.stem.startswith(("test", "law_")))

    def test_characters_and_sizes(self):
        for path in FILES:
            text = path.read_text()
            self.assertTrue(all(sign == "\n" or " " <= sign <= "~" for sign in text), path)
            self.assertLessEqual(len(text.splitlines()), 400, path)
            self.assertLessEqual(max(len(line) for line in text.splitlines()), 120, path)
        for path, node in nodes(ast.FunctionDef):
            self.assertLessEqual(node.end_lineno - node.lineno + 1, 40, (path, node.name))

    def test_barred_words(self):
        for path in FILES:
            text = path.read_text()
            for word in BARRED:
                self.assertIsNone(re.search(rf"\b{word}\b", text), (path, word))
            for word in ("dataclass", "overload", "contextmanager"):
                self.assertNotIn(word, text)

    def test_kinds_of_syntax(self):
        barred = (ast.Global, ast.AsyncFunctionDef, ast.Await, ast.Div, ast.Import)
        for path, node in nodes(barred):
            self.fail((path, node.lineno))
        for path, node in nodes(ast.Constant):
            self.assertNotIsInstance(node.value, (float, complex))
            self.assertFalse(isinstance(node.value, str) and "%" in node.value, (path, node.lineno))

    def test_module_level(self):
        plain = (ast.ImportFrom, ast.FunctionDef, ast.ClassDef)
        for path, tree in trees():
            self.assertIsNotNone(ast.get_docstring(tree), path)
            bound = []
            for node in tree.body[1:]:
                if isinstance(node, ast.Assign):
                    ast.literal_eval(node.value)
                    bound += [target.id for target in node.targets]
                elif isinstance(node, ast.ImportFrom):
                    bound += [name.name for name in node.names]
                else:
                    self.assertIsInstance(node, plain, (path, node.lineno))
                    self.assertEqual(node.decorator_list, [])
                    bound.append(node.name)
            self.assertEqual(len(bound), len(set(bound)), path)

    def test_imports_name_the_defining_file_and_make_no_circle(self):
        links = {}
        for path, tree in trees():
            links[path.stem] = []
            for node in imports(tree):
                self.assertTrue(node.level == 0 and node.module.startswith("fewforests."), path)
                source = node.module.split(".")[1]
                links[path.stem].append(source)
                body = ast.parse((PACKAGE / f"{source}.py").read_text()).body
                defined = {item.name for item in body if isinstance(item, (ast.FunctionDef, ast.ClassDef))}
                defined |= {item.targets[0].id for item in body if isinstance(item, ast.Assign)}
                for name in node.names:
                    self.assertIn(name.name, defined)
                    self.assertIsNone(name.asname)
        while links:
            ends = [stem for stem in links if not any(source in links for source in links[stem])]
            self.assertTrue(ends, links)
            links = {stem: links[stem] for stem in links if stem not in ends}

    def test_names(self):
        for path, tree in trees():
            taken = {name.name for node in imports(tree) for name in node.names}
            taken |= {node.name for node in ast.walk(tree) if isinstance(node, ast.ClassDef)}
            for node in ast.walk(tree):
                names = []
                if isinstance(node, ast.arg):
                    names = [node.arg]
                elif isinstance(node, ast.Name) and isinstance(node.ctx, ast.Store):
                    names = [node.id]
                elif isinstance(node, ast.FunctionDef) and not re.fullmatch("__[a-z]+__", node.name):
                    names = [node.name]
                for name in names:
                    self.assertFalse(name.startswith("_"), (path, name))
                    self.assertNotIn(name, taken | PYTHON_NAMES | BARRED_NAMES, path)

    def test_builtins_and_methods(self):
        own = {node.attr for path, node in nodes(ast.Attribute) if isinstance(node.ctx, ast.Store)}
        own |= {item.name for path, node in nodes(ast.ClassDef) for item in node.body if hasattr(item, "name")}
        for path, tree in trees():
            known = {name.name for node in imports(tree) for name in node.names}
            for node in ast.walk(tree):
                if isinstance(node, (ast.FunctionDef, ast.ClassDef)):
                    known.add(node.name)
                if isinstance(node, ast.arg):
                    known.add(node.arg)
                if isinstance(node, ast.Name) and isinstance(node.ctx, ast.Store):
                    known.add(node.id)
            for node in ast.walk(tree):
                if isinstance(node, ast.Name):
                    self.assertIn(node.id, known | BUILTINS, path)
                if isinstance(node, ast.Attribute):
                    self.assertIn(node.attr, METHODS | own, path)

    def test_no_name_is_a_method_and_an_attribute(self):
        methods = {item.name for path, node in nodes(ast.ClassDef) for item in node.body if hasattr(item, "name")}
        stored = {node.attr for path, node in nodes(ast.Attribute) if isinstance(node.ctx, ast.Store)}
        self.assertEqual(methods & stored, set())
        for name in stored | methods - {"__init__"}:
            for value in ("", 0, [], {}, set(), b"", ()):
                self.assertFalse(hasattr(value, name), name)

    def test_is_stands_with_none_true_and_false_only(self):
        for path, node in nodes(ast.Compare):
            for sign, right in zip(node.ops, node.comparators):
                if isinstance(sign, (ast.Is, ast.IsNot)):
                    self.assertTrue(isinstance(right, ast.Constant) and right.value in (None, True, False), path)

    def test_ranges_and_their_kin_are_iterated_at_once(self):
        takers = "list tuple dict sorted sum any all enumerate zip min max len reversed".split()
        for path, tree in trees():
            taken = []
            for node in ast.walk(tree):
                if isinstance(node, (ast.For, ast.comprehension)):
                    taken.append(node.iter)
                if isinstance(node, ast.Call) and isinstance(node.func, ast.Name) and node.func.id in takers:
                    taken += node.args if node.func.id == "zip" else node.args[:1]
            for node in ast.walk(tree):
                if isinstance(node, ast.Call) and isinstance(node.func, ast.Name):
                    if node.func.id in ("range", "zip", "enumerate", "reversed"):
                        self.assertTrue(any(node is other for other in taken), (path, node.lineno))

    def test_raised_errors_are_made_on_the_spot(self):
        for path, node in nodes(ast.Raise):
            self.assertTrue(isinstance(node.exc, ast.Call) and isinstance(node.exc.func, ast.Name), path)


if __name__ == "__main__":
    unittest.main()
