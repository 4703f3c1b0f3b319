"""The interface: names, arguments, defaults and places; and the rules of the language that are easy to count."""

import ast
import builtins
import pathlib
import unittest

PACKAGE = pathlib.Path(__file__).resolve().parent.parent / "ledelsewhere"
# The arguments as the document writes them, without self.
FUNCTIONS = {
    "guards": {
        "run_guard": "site, page, side, flags, answers=()",
        "resume_guard": "site, page, side, flags, position, answers=()",
        "all_ends": "site, page, side, flags",
        "letting_answers": "site, page, side, flags",
        "lets": "site, page, side, flags",
    },
    "rules": {"all_rules": ""},
    "standings": {
        "all_flags": "site",
        "put_page": "site, history, place, page",
        "is_standing": "site, rule, value",
        "is_deed": "site, value",
        "deeds": "site, *, flips=True",
    },
    "routing": {
        "begin": "site, rule, flags",
        "step": "site, rule, standing, deed",
    },
    "judge": {"faults": "site, rule, step"},
    "texts": {
        "format_site": "site",
        "parse_site": "text",
        "format_deeds": "deeds",
        "parse_deeds": "text",
    },
    "books": {
        "is_closed": "site, rule, value, *, flips=True",
        "shows_free": "site, rule, value, kind, *, flips=True",
    },
    "alike": {
        "difference": "first, second, *, flips=True, limit=5000",
        "alike": "first, second, *, flips=True, limit=5000",
        "pairing": "first, second, *, flips=True, limit=5000",
        "is_pairing": "first, second, value, *, flips=True",
        "parting": "book, first, second",
        "classes": "book",
        "rules_alike": "site, rules, *, flips=True, limit=5000",
    },
    "counting": {
        "most_leads": "book",
        "never_done": "book",
        "least_shown": "book, page",
        "is_settled": "standing",
        "lost": "book",
    },
    "heals": {
        "is_change": "site, rule, value",
        "with_changes": "site, rule, changes",
        "heals": "site, rule, kind, candidates, *, flips=True, limit=2000",
        "rules_free": "site, kinds, rules, *, flips=True, limit=2000",
    },
}
METHODS = {
    ("sites", "Site"): {
        "__init__": "bits, pages, start, *, keep=4",
        "__eq__": "other",
        "page_names": "",
        "guard": "page, side",
        "loads": "page",
        "row_paths": "",
        "row_at": "path",
        "with_row": "path, row",
        "with_guard": "page, side, rows",
        "is_quiet": "",
    },
    ("rules", "Rule"): {
        "__init__": "turn, newer, *, lead='put', again=False, backs=True",
        "__eq__": "other",
        "__str__": "",
        "with_part": "part, value",
        "named": "cls, text",
    },
    ("routing", "Step"): {"__init__": "deed, before, after, events, done"},
    ("live", "Live"): {
        "__init__": "site, rule, flags=None, *, standing=None",
        "address": "",
        "shown": "",
        "waiting": "",
        "perform": "deed",
        "click": "page",
        "back": "",
        "forward": "",
        "answer": "flag",
        "load": "flag",
        "late": "k, flag",
        "__getitem__": "at",
        "__setitem__": "at, worth",
        "__contains__": "x",
        "__iadd__": "other",
        "__len__": "",
        "trial": "deeds",
        "standing": "",
        "last_events": "",
        "deeds_done": "",
        "seen": "",
        "undo": "",
        "fork": "",
    },
    ("books", "Book"): {
        "__init__": "site, rule, *, flips=True, limit=2000",
        "__len__": "",
        "__contains__": "x",
        "moves": "",
        "standings": "",
        "least_run": "standing",
        "follow": "standing, deed",
        "faults": "",
        "least_fault": "kind, page",
        "is_free": "kind",
        "verdict": "",
        "deeds_between": "first, second",
    },
    ("verdicts", "Verdict"): {
        "__init__": "pairs",
        "pairs": "",
        "kinds": "",
        "only": "kinds",
        "__or__": "other",
        "__and__": "other",
        "__sub__": "other",
        "__xor__": "other",
        "__eq__": "other",
        "__len__": "",
        "__contains__": "x",
        "__bool__": "",
    },
    ("desk", "Desk"): {
        "__init__": "site, rules, *, flips=True, limit=2000",
        "set_bound": "value",
        "__ior__": "other",
        "__isub__": "other",
        "__getitem__": "at",
        "__setitem__": "at, worth",
        "put_guard": "page, side, rows",
        "put_site": "site",
        "__len__": "",
        "undo": "",
        "redo": "",
        "verdicts": "",
        "attempt": "edits",
    },
}
BARRED_WORDS = (
    "type", "typing", "typing_extensions", "enum", "Enum", "IntEnum", "StrEnum", "Flag", "IntFlag", "Generic",
    "Protocol", "ABC", "ABCMeta", "namedtuple", "NamedTuple", "TypedDict", "TYPE_CHECKING", "abstractmethod",
)


def tree_of(path):
    return ast.parse(path.read_text(encoding="utf-8"))


def functions_in(body):
    return {node.name: node for node in body if isinstance(node, ast.FunctionDef)}


def arguments_of(function):
    return ast.unparse(function.args).replace("self, ", "").replace("self", "")


def called_name(call):
    return call.func.attr if isinstance(call.func, ast.Attribute) else call.func.id


def is_unchanging(method):
    """True for operators and properties, but not for those operators that may change something."""
    name = method.name
    if name.startswith("__"):
        return name not in ("__init__", "__setitem__", "__iadd__", "__ior__", "__isub__")
    return any(ast.unparse(decorator) == "property" for decorator in method.decorator_list)


def run_by(method, known):
    """The calls in the method and in all functions and methods of the package that it calls, by their names."""
    calls, names, todo = [], set(), [method]
    while todo:
        made = [node for node in ast.walk(todo.pop()) if isinstance(node, ast.Call)]
        calls.extend(made)
        for name in {called_name(call) for call in made} - names:
            names.add(name)
            todo.extend(known.get(name, []))
    return calls


class TestInterface(unittest.TestCase):
    def test_functions(self):
        for module, functions in FUNCTIONS.items():
            found = functions_in(tree_of(PACKAGE / f"{module}.py").body)
            for name, arguments in functions.items():
                with self.subTest(module=module, name=name):
                    self.assertEqual(arguments_of(found[name]), arguments)

    def test_methods_stand_in_the_class_itself(self):
        for (module, name), methods in METHODS.items():
            body = tree_of(PACKAGE / f"{module}.py").body
            classes = {node.name: node for node in body if isinstance(node, ast.ClassDef)}
            found = functions_in(classes[name].body)
            for method, arguments in methods.items():
                with self.subTest(name=name, method=method):
                    self.assertEqual(arguments_of(found[method]), arguments)


class TestLanguage(unittest.TestCase):
    def test_no_name_is_a_method_and_an_attribute(self):
        methods, attributes = set(), set()
        for path in PACKAGE.glob("*.py"):
            tree = tree_of(path)
            for node in tree.body:
                if isinstance(node, ast.ClassDef):
                    methods.update(functions_in(node.body))
            nodes = [node for node in ast.walk(tree) if isinstance(node, ast.Attribute)]
            attributes.update(node.attr for node in nodes if isinstance(node.ctx, ast.Store))
        self.assertEqual(methods & attributes, set())

    def test_operators_and_properties_call_nothing_that_an_object_holds(self):
        known, attributes, methods = {}, set(), []
        for path in PACKAGE.glob("*.py"):
            for node in ast.walk(tree_of(path)):
                if isinstance(node, ast.FunctionDef):
                    known.setdefault(node.name, []).append(node)
                elif isinstance(node, ast.ClassDef):
                    found = functions_in(node.body)
                    known.setdefault(node.name, []).extend([found["__init__"]] if "__init__" in found else [])
                    methods.extend((node.name, method) for method in found.values() if is_unchanging(method))
                elif isinstance(node, ast.Attribute) and isinstance(node.ctx, ast.Store):
                    attributes.add(node.attr)
        # InvalidChange holds an index, so the index of a list or a tuple is no call that these may make.
        self.assertIn("index", attributes)
        self.assertIn(("Book", "__contains__"), [(name, method.name) for name, method in methods])
        for name, method in methods:
            given = {argument.arg for argument in method.args.args}
            with self.subTest(name=name, method=method.name):
                calls = run_by(method, known)
                held = [call for call in calls if isinstance(call.func, ast.Attribute) and call.func.attr in attributes]
                self.assertEqual([ast.unparse(call) for call in held], [])
                self.assertEqual(given & {called_name(call) for call in calls}, set())

    def test_no_local_name_is_that_of_a_class_or_an_import(self):
        for path in PACKAGE.glob("*.py"):
            tree = tree_of(path)
            taken = {node.name for node in tree.body if isinstance(node, ast.ClassDef)}
            taken.update(name.name for node in tree.body if isinstance(node, ast.ImportFrom) for name in node.names)
            given = {node.arg for node in ast.walk(tree) if isinstance(node, ast.arg)}
            given.update(node.id for node in ast.walk(tree) if isinstance(node, ast.Name) and isinstance(node.ctx, ast.Store))
            with self.subTest(path.name):
                self.assertEqual(given & (taken | set(dir(builtins))), set())

    def test_sizes_and_signs(self):
        for path in PACKAGE.glob("*.py"):
            with self.subTest(path.name):
                text = path.read_bytes().decode("ascii")
                lines = text.split("\n")
                self.assertLessEqual(len(lines), 399)
                self.assertLessEqual(max(len(line) for line in lines), 120)
                self.assertTrue(all(" " <= sign <= "~" or sign == "\n" for sign in text))
                self.assertEqual([word for word in BARRED_WORDS if word in words_of(text)], [])
                for node in ast.walk(tree_of(path)):
                    if isinstance(node, ast.FunctionDef):
                        self.assertLessEqual(node.end_lineno - node.lineno + 1, 40)

    def test_imports_are_of_the_package(self):
        for path in PACKAGE.glob("*.py"):
            for node in ast.walk(tree_of(path)):
                with self.subTest(path.name):
                    self.assertNotIsInstance(node, ast.Import)
                    if isinstance(node, ast.ImportFrom):
                        self.assertEqual(node.module.partition(".")[0], "ledelsewhere")


def words_of(text):
    """All words of a file, those of comments and strings too."""
    return set("".join(sign if sign.isalnum() or sign == "_" else " " for sign in text).split())
