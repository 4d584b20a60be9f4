"""What holds for the files of the package as texts: their language is small."""

import ast
import pathlib
import re
import unittest

ROOT = pathlib.Path(__file__).resolve().parent.parent
FILES = sorted((ROOT / "agedfiles").rglob("*.py"))
BARRED = ("type typing typing_extensions enum Enum IntEnum StrEnum Flag IntFlag Generic Protocol ABC ABCMeta namedtuple "
          "NamedTuple TypedDict TYPE_CHECKING abstractmethod").split()
BARRED_NAMES = ("register mro elements open input law version_info with_traceback add_note attrgetter breakpoint builtins "
                "compile copyright credits delattr dir eval exec exit gc getattr globals hasattr help id importlib license "
                "locals methodcaller os quit setattr super type vars sys").split()
LISTED = {
    "errors": {"AgeError": ""},
    "moments": {"Moment": "__init__ seconds __add__ __radd__ __sub__ __rsub__ __lt__ __le__ __gt__ __ge__ __eq__ seen"},
    "stretches": {"Stretches": "__init__ pairs __contains__ __and__ __or__ __sub__ __le__ __eq__ __bool__ __add__ __radd__ "
                               "spread below least greatest has_end count numbers none everything one"},
    "deeds": {"is_deed": "", "makes": "", "backs": ""},
    "rules": {"Rule": "always never seldom word after __call__ __eq__"},
    "files": {"File": "__init__ __getitem__ marks do last latest held hold within double __eq__"},
    "ways": {"Way": "__init__ nodes arrows __getitem__ __len__ arrow __eq__"},
    "rows": {"is_row": "", "rows": "", "file_at": ""},
    "books": {"Book": "__init__ bound looks how day grain spares late again period __getitem__ __setitem__ change parts remade "
                      "twin threshold __call__ __eq__ __le__ __lt__ __ge__ __gt__ careful hasty", "seen_age": ""},
    "faults": {"is_fault": "", "faults": ""},
    "seldom": {"ages_of_read": ""},
    "ages": {"greatest_age": "", "least_age": ""},
    "safety": {"greatest_seen": "", "is_safe": "", "least_bound": "", "safe_looks": ""},
    "shortest": {"shortest_fault": ""},
    "stays": {"stay": ""},
    "compare": {"parting": ""},
    "papers": {"paper_of": ""},
    "checker": {"is_paper": ""},
    "changes": {"Menu": "__init__ made __len__", "least_sets": ""},
    "texts": {name: "" for name in "show_rule read_rule show_deed read_deed show_book read_book show_way read_way".split()},
    "sessions": {"Session": "__init__ __getitem__ __setitem__ keep remove __contains__ __len__ names book rule take_book take_rule "
                            "change safe unsafe_names trial within trying"},
    "console": {"Console": "__init__ session say"},
}


def tree(path):
    return ast.parse(path.read_text(encoding="ascii"))


def imported(path):
    """The modules of the package from which a file imports."""
    return [node.module.split(".")[1] for node in ast.walk(tree(path)) if isinstance(node, ast.ImportFrom)]


class SourceTest(unittest.TestCase):
    def test_there_is_a_package(self):
        self.assertIn(ROOT / "agedfiles" / "__init__.py", FILES)
        self.assertLessEqual(len(FILES), 100)

    def test_sizes_and_characters(self):
        for path in FILES:
            text = path.read_text(encoding="ascii")
            lines = text.split("\n")
            with self.subTest(path.name):
                self.assertIsNone(re.search(r"[^ -~\n]", text))
                self.assertLessEqual(len(lines), 400)
                self.assertLessEqual(max(map(len, lines)), 120)
                for node in ast.walk(tree(path)):
                    if isinstance(node, ast.FunctionDef):
                        self.assertLessEqual(node.end_lineno - node.lineno + 1, 40, node.name)

    def test_barred_words(self):
        for path in FILES:
            words = re.findall(r"\w+", path.read_text(encoding="ascii"))
            with self.subTest(path.name):
                self.assertEqual([word for word in words if word in BARRED], [])
                names = [name for node in ast.walk(tree(path)) for name in (
                    getattr(node, "id", None), getattr(node, "attr", None), getattr(node, "name", None),
                    getattr(node, "arg", None)) if isinstance(name, str)]
                self.assertEqual([name for name in names if name in BARRED_NAMES], [])
                self.assertEqual([name for name in names if name.startswith("_") and not name.endswith("__")], [])

    def test_imports_of_the_package_only(self):
        for path in FILES:
            for node in ast.walk(tree(path)):
                with self.subTest(path.name):
                    self.assertNotIsInstance(node, ast.Import)
                    if isinstance(node, ast.ImportFrom):
                        self.assertEqual((node.level, node.module.split(".")[0]), (0, "agedfiles"))
                        self.assertEqual([name.name for name in node.names if name.name == "*"], [])

    def test_no_circles_of_imports(self):
        waiting = {path.stem: set(imported(path)) for path in FILES}
        while waiting:
            ready = [name for name in waiting if not waiting[name]]
            self.assertNotEqual(ready, [], waiting)
            waiting = {name: waiting[name] - set(ready) for name in waiting if name not in ready}

    def test_what_is_listed_is_defined_where_it_is_listed(self):
        for stem, things in LISTED.items():
            body = {node.name: node for node in tree(ROOT / "agedfiles" / (stem + ".py")).body if hasattr(node, "name")}
            for name, methods in things.items():
                with self.subTest(name):
                    self.assertIn(name, body)
                    if methods:
                        found = [node.name for node in body[name].body if isinstance(node, ast.FunctionDef)]
                        self.assertEqual(set(methods.split()) - set(found), set())


if __name__ == "__main__":
    unittest.main()
