"""The interface as it is written, and those rules of the language that a look at the files can see."""

import ast
import builtins
import importlib
import inspect
import pathlib
import unittest

FOLDER = pathlib.Path(__file__).resolve().parent.parent / "latewords"
FUNCTIONS = {
    "conversations": {"check": "(conversation)", "turns": "(conversation)", "normal_order": "(conversation, order)"},
    "searches": {"search": "(setting, conversation)"},
    "states": {"written": "(setting, speaker, state, length, mode='plain')", "cleared": "(setting, speaker, state)",
               "ended": "(setting, speaker, state)"},
    "outcomes": {"outcome": "(setting, conversation, order='quick')", "least": "(setting, conversation)",
                 "most": "(setting, conversation)", "verdicts": "(setting, conversation)"},
    "sizes": {"bands": "(setting, conversation)", "padding": "(setting, conversation, turn=0)"},
    "worst": {"first_stall": "(talk, setting)", "fewest_stalls": "(talk, setting, turns)",
              "most_stalls": "(talk, setting, turns)", "share": "(talk, setting)"},
    "papers": {"stall_paper": "(talk, setting)", "never_paper": "(talk, setting)", "share_paper": "(talk, setting)",
               "holds": "(talk, setting, paper)"},
    "cures": {"cure": "(setting, conversation, *, mode='push')", "cure_talk": "(talk, setting, *, mode='push')",
              "changed_conversation": "(conversation, choice, mode)", "changed_talk": "(talk, choice, mode)"},
    "gaps": {"gap": "(talk, one, other, *, order='quick')",
             "gap_holds": "(talk, one, other, answer, *, order='quick')"},
    "texts": {"show_conversation": "(conversation)", "read_conversation": "(text)", "read_policy": "(text)",
              "read_setting": "(text)", "show_talk": "(talk)", "read_talk": "(text)"},
}
METHODS = {
    "settings": {
        "Policy": {"__init__": "(self, hold='all', *, every=2, quick=0)", "__eq__": "(self, other)",
                   "__str__": "(self)", "__repr__": "(self)"},
        "Setting": {"__init__": "(self, size, *policies)", "changed": "(self, *, endpoint=None, **changes)",
                    "__eq__": "(self, other)", "__str__": "(self)", "__repr__": "(self)"},
    },
    "roads": {
        "Road": {
            "__init__": "(self, setting, conversation)", "possible": "(self)", "do": "(self, event)",
            "rest_of": "(self, endpoint)", "keeps": "(self, endpoint)", "sent_by": "(self, endpoint)",
            "acknowledged_to": "(self, endpoint)", "received_by": "(self, endpoint)",
            "pending_at": "(self, endpoint)", "segments_at": "(self, endpoint)", "way_from": "(self, endpoint)",
            "undo": "(self)", "log": "(self)", "clearing": "(self)", "play": "(self, order='quick')",
            "tried": "(self, function)", "__len__": "(self)",
        },
        "Trial": {"__init__": "(self, road)", "__enter__": "(self)", "__exit__": "(self, kind, value, trace)"},
    },
    "states": {
        "TurnState": {
            "__init__": "(self, rest=0, kept=False, blocked=False, stuck=False, pending=0, quick=0)",
            "__eq__": "(self, other)", "__repr__": "(self)",
        },
    },
    "outcomes": {
        "Outcome": {"__init__": "(self, stalls=0, segments=0, acknowledgments=0, stalled=())",
                    "__eq__": "(self, other)", "__bool__": "(self)", "__repr__": "(self)"},
    },
    "talks": {
        "Talk": {"__init__": "(self, nodes, start, ends, edges)", "ends": "(self)", "edges": "(self)",
                 "useful": "(self)", "conversation": "(self, path)", "paths": "(self, count)", "__len__": "(self)",
                 "__getitem__": "(self, at)", "__contains__": "(self, x)"},
    },
    "turngraphs": {
        "TurnGraph": {"__init__": "(self, talk, setting)", "stations": "(self)", "arcs": "(self)",
                      "witness": "(self, arc)"},
    },
    "desk": {"Desk": {"__init__": "(self)", "say": "(self, row)"}},
    "errors": {
        name: {"__init__": f"(self, {field})"} for name, field in (
            ("BadSetting", "name"), ("BadWrite", "index"), ("BadOrder", "index"), ("NotPossible", "event"),
            ("TooLong", "many"), ("BadTalk", "index"), ("EndlessTurn", "endpoint"), ("BadPath", "index"),
            ("BadText", "line"), ("BadRow", "column"), ("NoTurn", "turn"), ("NoArc", "arc"), ("NoName", "name"))
    },
}
LIBRARY = {"heapq": {"heappop", "heappush"}, "math": {"gcd"}}
BUILTINS = {
    "len", "range", "enumerate", "zip", "min", "max", "sum", "abs", "sorted", "reversed", "int", "str", "bool",
    "list", "tuple", "dict", "set", "isinstance", "ord", "repr", "any", "all", "divmod", "Exception", "ValueError",
    "TypeError", "KeyError", "IndexError", "LookupError", "RuntimeError", "NotImplemented", "property",
}


def names_defined(file):
    """The names that a file binds at module level, but for what it imports."""
    found = []
    for node in ast.parse(file.read_text()).body:
        if isinstance(node, (ast.FunctionDef, ast.ClassDef)):
            found.append(node.name)
        elif isinstance(node, ast.Assign):
            found.extend(target.id for target in node.targets)
    return found


class InterfaceTest(unittest.TestCase):
    def test_functions_are_defined_where_they_are_listed(self):
        for module, functions in FUNCTIONS.items():
            for name, signature in functions.items():
                with self.subTest(module=module, name=name):
                    function = getattr(importlib.import_module(f"latewords.{module}"), name)
                    self.assertEqual(function.__module__, f"latewords.{module}")
                    self.assertEqual(str(inspect.signature(function)), signature)

    def test_methods_are_defined_in_their_class(self):
        for module, classes in METHODS.items():
            for name, methods in classes.items():
                kind = getattr(importlib.import_module(f"latewords.{module}"), name)
                self.assertEqual(kind.__module__, f"latewords.{module}")
                for method, signature in methods.items():
                    with self.subTest(module=module, name=name, method=method):
                        self.assertEqual(str(inspect.signature(vars(kind)[method])), signature)


class FormTest(unittest.TestCase):
    def setUp(self):
        self.files = sorted(FOLDER.glob("*.py"))
        self.assertTrue(self.files)

    def nodes(self, *kinds):
        for file in self.files:
            for node in ast.walk(ast.parse(file.read_text())):
                if isinstance(node, kinds):
                    yield file.name, node

    def test_the_folder_holds_plain_files_only(self):
        for file in FOLDER.iterdir():
            if file.name != "__pycache__":
                self.assertRegex(file.name, r"\A[a-z_]+\.py\Z")

    def test_lines_and_characters(self):
        for file in self.files:
            text = file.read_text(encoding="utf-8")
            lines = text.split("\n")
            self.assertLessEqual(len(lines), 399, file.name)
            self.assertTrue(all(letter == "\n" or " " <= letter <= "~" for letter in text), file.name)
            for number, line in enumerate(lines, 1):
                self.assertLessEqual(len(line), 120, (file.name, number))
                self.assertEqual(line, line.rstrip(), (file.name, number))

    def test_functions_are_small(self):
        for name, node in self.nodes(ast.FunctionDef):
            self.assertLessEqual(node.end_lineno - node.lineno + 1, 40, (name, node.name))

    def test_imports_come_from_the_package(self):
        for name, node in self.nodes(ast.Import, ast.ImportFrom):
            self.assertIsInstance(node, ast.ImportFrom, name)
            self.assertTrue(all(alias.asname is None for alias in node.names), name)
            if node.module in LIBRARY:
                self.assertTrue({alias.name for alias in node.names} <= LIBRARY[node.module], name)
                continue
            self.assertTrue(node.module.startswith("latewords."), (name, node.lineno))
            defined = names_defined(FOLDER / f"{node.module.split('.')[1]}.py")
            for alias in node.names:
                self.assertIn(alias.name, defined, (name, node.lineno))

    def test_what_is_left_out_of_the_language(self):
        for name, node in self.nodes(ast.Global, ast.AsyncFunctionDef, ast.GeneratorExp, ast.Div, ast.Lambda):
            if isinstance(node, ast.Lambda) and name == "outcomes.py":
                continue
            self.fail((name, getattr(node, "lineno", None), node))
        for name, node in self.nodes(ast.Constant):
            self.assertNotIsInstance(node.value, (float, complex), (name, node.lineno))
            if isinstance(node.value, str):
                self.assertNotIn("%", node.value, (name, node.lineno))
        for name, node in self.nodes(ast.FunctionDef, ast.ClassDef):
            for decorator in node.decorator_list:
                self.assertEqual(ast.unparse(decorator), "property", (name, node.name))

    def test_builtins(self):
        for name, node in self.nodes(ast.Name):
            if node.id in vars(builtins):
                self.assertIsInstance(node.ctx, ast.Load, (name, node.lineno))
                self.assertIn(node.id, BUILTINS, (name, node.lineno))
        for name, node in self.nodes(ast.arg, ast.FunctionDef, ast.ClassDef):
            self.assertNotIn(getattr(node, "arg", getattr(node, "name", None)), vars(builtins), name)

    def test_only_own_errors_are_caught(self):
        own = set(names_defined(FOLDER / "errors.py"))
        for name, node in self.nodes(ast.Try):
            self.assertEqual(node.finalbody, [], name)
            for handler in node.handlers:
                self.assertIsInstance(handler.type, ast.Name, (name, node.lineno))
                self.assertIn(handler.type.id, own, (name, node.lineno))
        for name, node in self.nodes(ast.Raise):
            self.assertIsInstance(node.exc, ast.Call, (name, node.lineno))

    def test_no_local_name_is_that_of_a_class_or_an_import_of_its_file(self):
        for file in self.files:
            tree = ast.parse(file.read_text())
            taken = {node.name for node in tree.body if isinstance(node, ast.ClassDef)}
            taken |= {alias.name for node in tree.body if isinstance(node, ast.ImportFrom) for alias in node.names}
            for node in ast.walk(tree):
                names = [node.arg] if isinstance(node, ast.arg) else []
                if isinstance(node, ast.Name) and isinstance(node.ctx, ast.Store):
                    names.append(node.id)
                for name in names:
                    self.assertNotIn(name, taken, (file.name, node.lineno))

    def test_no_two_files_import_from_each_other(self):
        above = {}
        for file in self.files:
            above[file.stem] = {node.module.split(".")[1] for node in ast.walk(ast.parse(file.read_text()))
                                if isinstance(node, ast.ImportFrom) and node.module.startswith("latewords.")}
        done = set()
        while len(done) < len(above):
            free = {name for name in above if name not in done and above[name] <= done}
            self.assertTrue(free, set(above) - done)
            done |= free

    def test_names_and_words(self):
        barred = {"register", "mro", "elements", "open", "input", "law", "version_info", "add_note", "with_traceback"}
        kinds = r"\b(typing|enum|Enum|Flag|Generic|Protocol|ABC|namedtuple|NamedTuple|TypedDict|abstractmethod)\b"
        for file in self.files:
            text = file.read_text()
            self.assertNotRegex(text, kinds, file.name)
            self.assertNotRegex(text, r"dataclass|overload|contextmanager|\(type\)|Meta|metaclass=|_wall|_WallAttr")
            for node in ast.walk(ast.parse(text)):
                for field in ("id", "attr", "arg", "name"):
                    name = getattr(node, field, None)
                    if isinstance(name, str):
                        self.assertNotIn(name, barred, file.name)
                        self.assertTrue(not name.startswith("__") or name.endswith("__"), (file.name, name))

    def test_no_name_is_a_method_and_an_attribute_of_a_builtin_value(self):
        taken = {name for kind in (str, int, list, dict, set, tuple, bytes) for name in vars(kind)
                 if not name.startswith("__")}
        methods, generators = set(), set()
        for name, node in self.nodes(ast.ClassDef):
            for method in node.body:
                if isinstance(method, ast.FunctionDef):
                    self.assertNotIn(method.name, taken, name)
                    methods.add(method.name)
                    if any(isinstance(part, (ast.Yield, ast.YieldFrom)) for part in ast.walk(method)):
                        generators.add(method.name)
        self.assertEqual(generators, {"paths"})
        for name, node in self.nodes(ast.Attribute):
            if isinstance(node.ctx, ast.Store):
                self.assertNotIn(node.attr, (taken | methods) - {"index"}, (name, node.lineno))
        for name, node in self.nodes(ast.Name, ast.FunctionDef):
            own = getattr(node, "id", getattr(node, "name", None))
            if not (name == "talks.py" and isinstance(node, ast.FunctionDef)):
                self.assertNotIn(own, generators, name)

    def test_what_is_reversed_is_plainly_a_list(self):
        for name, node in self.nodes(ast.Call):
            if isinstance(node.func, ast.Name) and node.func.id == "reversed":
                self.assertEqual(ast.unparse(node.args[0]).split("(")[0], "list", (name, node.lineno))

    def test_methods_of_builtin_values(self):
        allowed = set("append copy extend find get index isalpha isascii isdigit islower items join partition pop "
                      "setdefault split startswith values add".split())
        taken = {name for kind in (str, int, list, dict, set, tuple, bytes) for name in vars(kind)}
        for name, node in self.nodes(ast.Call):
            if isinstance(node.func, ast.Attribute) and node.func.attr in taken:
                self.assertIn(node.func.attr, allowed | {"__init__"}, (name, node.lineno))
                self.assertEqual(node.keywords, [], (name, node.lineno))


if __name__ == "__main__":
    unittest.main()
