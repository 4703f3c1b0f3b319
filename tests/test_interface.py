"""The interface: names, arguments, defaults and places; and the rules of the language that are easy to count."""

import ast
import pathlib
import unittest

PACKAGE = pathlib.Path(__file__).resolve().parent.parent / "ledelsewhere"
# The arguments as the document writes them, without self.
FUNCTIONS = {
    "guards": {
        "run_guard": "site, page, side, flags, answers=()",
        "resume_guard": "site, page, side, flags, position, answers=()",
        "all_ends": "site, page, side, flags",
        "letting_answers": "site, page, side, flags",
        "lets": "site, page, side, flags",
    },
    "rules": {"all_rules": ""},
    "standings": {
        "all_flags": "site",
        "put_page": "site, history, place, page",
        "is_standing": "site, rule, value",
        "is_deed": "site, value",
        "deeds": "site, *, flips=True",
    },
    "routing": {
        "begin": "site, rule, flags",
        "step": "site, rule, standing, deed",
    },
    "judge": {"faults": "site, rule, step"},
}
METHODS = {
    ("sites", "Site"): {
        "__init__": "bits, pages, start, *, keep=4",
        "__eq__": "other",
        "page_names": "",
        "guard": "page, side",
        "loads": "page",
        "row_paths": "",
        "row_at": "path",
        "with_row": "path, row",
        "with_guard": "page, side, rows",
        "is_quiet": "",
    },
    ("rules", "Rule"): {
        "__init__": "turn, newer, *, lead='put', again=False, backs=True",
        "__eq__": "other",
        "__str__": "",
        "with_part": "part, value",
        "named": "cls, text",
    },
    ("routing", "Step"): {"__init__": "deed, before, after, events, done"},
}
BARRED_WORDS = (
    "type", "typing", "typing_extensions", "enum", "Enum", "IntEnum", "StrEnum", "Flag", "IntFlag", "Generic",
    "Protocol", "ABC", "ABCMeta", "namedtuple", "NamedTuple", "TypedDict", "TYPE_CHECKING", "abstractmethod",
)


def tree_of(path):
    return ast.parse(path.read_text(encoding="utf-8"))


def functions_in(body):
    return {node.name: node for node in body if isinstance(node, ast.FunctionDef)}


def arguments_of(function):
    return ast.unparse(function.args).replace("self, ", "").replace("self", "")


class TestInterface(unittest.TestCase):
    def test_functions(self):
        for module, functions in FUNCTIONS.items():
            found = functions_in(tree_of(PACKAGE / f"{module}.py").body)
            for name, arguments in functions.items():
                with self.subTest(module=module, name=name):
                    self.assertEqual(arguments_of(found[name]), arguments)

    def test_methods_stand_in_the_class_itself(self):
        for (module, name), methods in METHODS.items():
            body = tree_of(PACKAGE / f"{module}.py").body
            classes = {node.name: node for node in body if isinstance(node, ast.ClassDef)}
            found = functions_in(classes[name].body)
            for method, arguments in methods.items():
                with self.subTest(name=name, method=method):
                    self.assertEqual(arguments_of(found[method]), arguments)


class TestLanguage(unittest.TestCase):
    def test_sizes_and_signs(self):
        for path in PACKAGE.glob("*.py"):
            with self.subTest(path.name):
                text = path.read_bytes().decode("ascii")
                lines = text.split("\n")
                self.assertLessEqual(len(lines), 399)
                self.assertLessEqual(max(len(line) for line in lines), 120)
                self.assertTrue(all(" " <= sign <= "~" or sign == "\n" for sign in text))
                self.assertEqual([word for word in BARRED_WORDS if word in words_of(text)], [])
                for node in ast.walk(tree_of(path)):
                    if isinstance(node, ast.FunctionDef):
                        self.assertLessEqual(node.end_lineno - node.lineno + 1, 40)

    def test_imports_are_of_the_package(self):
        for path in PACKAGE.glob("*.py"):
            for node in ast.walk(tree_of(path)):
                with self.subTest(path.name):
                    self.assertNotIsInstance(node, ast.Import)
                    if isinstance(node, ast.ImportFrom):
                        self.assertEqual(node.module.partition(".")[0], "ledelsewhere")


def words_of(text):
    """All words of a file, those of comments and strings too."""
    return set("".join(sign if sign.isalnum() or sign == "_" else " " for sign in text).split())
