"""The form of the package's code: the rules that are plain to see in a file."""

import ast
import builtins
import re
import unittest
from pathlib import Path

PACKAGE = Path(__file__).resolve().parent.parent / "brineways"
FILES = sorted(PACKAGE.rglob("*.py"))
INTERFACE = {
    "errors": "BrineError NoFraction NoBrine NoStrength NoWater NoMoment NoYear NoPan NoRoom Weaker NoDeed NoGate"
              " NoLot NoPlan NoLine NoLater NoText",
    "fractions": "is_fraction fraction plus less times over is_less least greatest summed floor",
    "brines": "is_layer is_brine laid joined share_of water_of salt_of fallen_of weakest strongest strengths need"
              " alike_by_needs",
    "sun": "dried rained dried_right",
    "draws": "drawn skimmed may_take bound_by least_bound stirred",
    "spells": "is_weather days_of fallen_by after strong_spans shallow_spans first_strong",
    "needs": "need_at since came best_begins peak least_shown most_shown",
    "years": "is_year part_after year_after brings gone is_settled settles turned",
    "clamps": "clamped one_behind many_times first_time",
    "brims": "is_pan rim_of clamp_of brimmed brim_spans",
    "works": "is_works is_stand is_deed done passed",
    "keeper": "Keeper",
    "ladders": "is_gates openings run_to",
    "rooms": "room room_by does_hold",
    "fits": "best_fit fit_worth prices_bound",
    "plans": "is_field lines_of best_plan plan_salt prices_salt",
    "texts": "fraction_text brine_text read_fraction read_brine",
    "desk": "Desk",
}
METHODS = {
    ("keeper", "Keeper"): "tell drop back stand_at account_at deeds",
    ("desk", "Desk"): "say",
}
BUILTINS = set(
    "len range enumerate zip min max sum abs sorted reversed int str bool bytes list tuple dict set frozenset"
    " isinstance ord repr any all divmod iter next super property staticmethod classmethod Exception ValueError"
    " TypeError KeyError IndexError LookupError ZeroDivisionError ArithmeticError OverflowError RuntimeError"
    " NotImplementedError AttributeError StopIteration NotImplemented".split()
)
BARRED_WORDS = re.compile(
    r"\b(type|typing|typing_extensions|enum|Enum|IntEnum|StrEnum|Flag|IntFlag|Generic|Protocol|ABC|ABCMeta"
    r"|namedtuple|NamedTuple|TypedDict|TYPE_CHECKING|abstractmethod)\b|dataclass|overload|contextmanager"
)
BARRED_NODES = (ast.Div, ast.Global, ast.AsyncFunctionDef, ast.Await, ast.Import, ast.AsyncFor, ast.AsyncWith)


def names_bound(tree):
    """Every name that a file binds, with its line."""
    for node in ast.walk(tree):
        if isinstance(node, ast.Name) and isinstance(node.ctx, ast.Store):
            yield node.id, node.lineno
        elif isinstance(node, ast.arg):
            yield node.arg, node.lineno
        elif isinstance(node, (ast.FunctionDef, ast.ClassDef)):
            yield node.name, node.lineno


class Form(unittest.TestCase):
    def each(self):
        for path in FILES:
            text = path.read_text(encoding="utf-8")
            yield path, text, ast.parse(text)

    def test_the_folder_holds_nothing_else(self):
        for path in PACKAGE.rglob("*"):
            if "__pycache__" not in path.parts:
                self.assertTrue(path.suffix == ".py" or path.is_dir(), path)
        self.assertTrue((PACKAGE / "__init__.py").is_file())

    def test_size_and_characters(self):
        for path, text, tree in self.each():
            self.assertLess(len(text.splitlines()), 400, path.name)
            self.assertEqual([line for line in text.split("\n") if len(line) > 120], [])
            self.assertEqual([sign for sign in text if sign != "\n" and not " " <= sign <= "~"], [])
            for node in ast.walk(tree):
                if isinstance(node, ast.FunctionDef):
                    self.assertLessEqual(node.end_lineno - node.lineno + 1, 40, node.name)

    def test_words_and_kinds_that_are_not_used(self):
        for path, text, tree in self.each():
            self.assertEqual(BARRED_WORDS.findall(text), [], path.name)
            for node in ast.walk(tree):
                self.assertNotIsInstance(node, BARRED_NODES, path.name)
                if isinstance(node, ast.Constant):
                    self.assertNotIsInstance(node.value, (float, complex))
                    self.assertNotIn("%", str(node.value))

    def test_imports_name_the_file_that_defines(self):
        homes = {path.stem: ast.parse(path.read_text(encoding="utf-8")) for path in FILES}
        for path, text, tree in self.each():
            for node in ast.walk(tree):
                if isinstance(node, ast.ImportFrom):
                    self.assertEqual((node.level, node.module.split(".")[0]), (0, "brineways"))
                    bound = {name for name, _ in names_bound(homes[node.module.split(".")[1]])}
                    self.assertEqual([one.name for one in node.names if one.name not in bound], [])

    def test_names(self):
        barred = set(dir(builtins)) | {"register", "elements", "law", "mro"}
        for path, text, tree in self.each():
            imports = {one.name for node in ast.walk(tree) if isinstance(node, ast.ImportFrom) for one in node.names}
            for name, line in names_bound(tree):
                self.assertNotIn(name, barred | imports, (path.name, line))
                self.assertTrue(name == "__init__" or not name.startswith("_"), (path.name, name, line))

    def test_builtins(self):
        for path, text, tree in self.each():
            for node in ast.walk(tree):
                if isinstance(node, ast.Name) and node.id in dir(builtins):
                    self.assertIn(node.id, BUILTINS, (path.name, node.lineno))


class Interface(unittest.TestCase):
    def test_each_name_is_defined_in_its_file(self):
        for stem, names in INTERFACE.items():
            tree = ast.parse((PACKAGE / f"{stem}.py").read_text(encoding="utf-8"))
            defined = {node.name for node in tree.body if isinstance(node, (ast.FunctionDef, ast.ClassDef))}
            self.assertEqual(set(names.split()) - defined, set())

    def test_each_method_is_defined_in_its_class(self):
        for (stem, name), methods in METHODS.items():
            tree = ast.parse((PACKAGE / f"{stem}.py").read_text(encoding="utf-8"))
            body = next(node.body for node in tree.body if isinstance(node, ast.ClassDef) and node.name == name)
            defined = {node.name for node in body if isinstance(node, ast.FunctionDef)}
            self.assertEqual(set(methods.split()) - defined, set())


if __name__ == "__main__":
    unittest.main()
