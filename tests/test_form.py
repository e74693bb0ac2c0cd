"""The form of the program: the rules of the language, and where the names of the interface are defined."""

import ast
import inspect
import re
import unittest
from importlib import import_module
from pathlib import Path

from tests.form import PACKAGE, file_faults, package_faults
from tests.reach import reach_faults

FOLDER = Path(__file__).resolve().parent.parent / PACKAGE

FUNCTIONS = {
    "lamps": {
        "is_lamps": "(value)",
        "is_set": "(value, lamps)",
        "all_sets": "(lamps)",
        "union": "(*sets)",
        "is_within": "(one, other)",
    },
    "goals": {"check_sentence": "(lamps, value)", "parts_of": "(sentence)"},
    "boards": {"side_by_side": "(*boards)", "ranks": "(board, hand, places)"},
    "plans": {"plan_table": "(plan)"},
    "walks": {"breaking_walk": "(plan, goal, place)", "winning_places": "(plan, goal)"},
    "solving": {"number_winners": "(owners, arrows)"},
    "needs": {"test_board": "(goal)", "test_plan": "(goal)", "reply": "(goal, plan)"},
    "texts": {
        "sentence_text": "(sentence)",
        "goal_text": "(goal)",
        "board_text": "(board)",
        "read_goal": "(text)",
        "read_board": "(text)",
    },
    "tellers": {"least_teller": "(goal)", "wrong_row": "(teller, goal)"},
    "pages": {"write_book": "(book)", "read_book": "(text)"},
}
# For each class its file, its parameters, its properties and its other methods with their parameters.
CLASSES = {
    "Goal": ("goals", "(lamps, sentence)", "lamps sentence", {
        "__call__": "(self, kept)", "__contains__": "(self, kept)", "sets": "(self)", "of_sets": "(lamps, *sets)",
        "__and__": "(self, other)", "__or__": "(self, other)", "__invert__": "(self)", "__eq__": "(self, other)",
        "__len__": "(self)", "__repr__": "(self)",
    }),
    "Tree": ("trees", "(goal)", "goal", {
        "parts": "(self, lit)", "branches": "(self)", "height": "(self)", "worth": "(self, hand)", "ways": "(self, hand)",
        "__len__": "(self)", "__repr__": "(self)",
    }),
    "Board": ("boards", "(lamps, owners, arrows)", "lamps places", {
        "owners": "(self)", "arrows": "(self)", "leaving": "(self, place)", "with_arrow": "(self, arrow)",
        "without_arrow": "(self, index)", "turned": "(self)", "__add__": "(self, other)", "__eq__": "(self, other)",
        "__len__": "(self)", "__repr__": "(self)",
    }),
    "Plan": ("plans", "(board, hand, firsts, moves, nexts)", "board hand notes", {
        "firsts": "(self)", "moves": "(self)", "nexts": "(self)", "__eq__": "(self, other)", "__repr__": "(self)",
    }),
    "Walk": ("walks", "(board, place, lead, ring)", "board place", {
        "lead": "(self)", "ring": "(self)", "kept": "(self)", "winner": "(self, goal)", "follows": "(self, plan)",
        "told": "(self)", "__eq__": "(self, other)", "__len__": "(self)",
    }),
    "Drive": ("walks", "(one, two, place)", "one two", {"told": "(self)"}),
    "Solution": ("solving", "(board, goal)", "board goal", {
        "lot": "(self, hand)", "plan": "(self, hand)", "winner": "(self, place)", "__repr__": "(self)",
    }),
    "Teller": ("tellers", "(lamps, steps)", "lamps", {
        "steps": "(self)", "step": "(self, room, lit)", "numbers": "(self)", "tells": "(self, lead, ring)",
        "__eq__": "(self, other)", "__len__": "(self)", "__repr__": "(self)",
    }),
    "Book": ("books", "(*, limit=12)", "limit busy computed", {
        "set_limit": "(self, value)", "apply": "(self, *commands)", "undo": "(self)", "redo": "(self)", "history": "(self)",
        "names": "(self, *kinds)", "goal_named": "(self, name)", "board_named": "(self, name)", "text": "(self, name)",
        "answer": "(self, goal, board)", "kept": "(self)", "twin": "(self)", "__contains__": "(self, name)",
        "__len__": "(self)", "__eq__": "(self, other)", "__repr__": "(self)",
    }),
    "Desk": ("desk", "(*, book=None)", "", {
        "say": "(self, line)", "__call__": "(self, line)", "book": "(self)", "log": "(self)", "__len__": "(self)",
    }),
}
CLASS_VALUES = {"Board": {"PLACES": 12, "ARROWS": 80}, "Plan": {"NOTES": 24}, "Book": {"MOST": 20}}
GENERATORS = (("lamps", "all_sets"), ("goals", "parts_of"))
WRONG_FILES = {
    "L2": "from os import path\n",
    "L3": "ROWS = [x for x in (1, 2)]\n",
    "L4": "def f(x, /):\n    return x\n",
    "L5": "class C:\n    def __hash__(self):\n        return 1\n",
    "L6": "def f():\n    global x\n",
    "L7": "def f(x):\n    return x / 2\n",
    "L8": "def f(x):\n    return round(x)\n",
    "L10": "def f(x):\n" + "    x += 1\n" * 40,
    "L12": "def f(_x):\n    return 1\n",
    "L14": "NAME = '\u00e9'\n",
    "L15": "def f(id):\n    return 1\n",
    "L17": "# the type of a value\n",
    "L20": "def f(x, y):\n    return x is y\n",
    "L23": "def f(x):\n    xs = range(x)\n    return [y for y in xs]\n",
    "L27": "NAME = '5 %'\n",
    "L28": "class C:\n    def __eq__(self, other):\n        same = self.x == other.x\n        return same\n",
}
WRONG_BINDINGS = (
    "from relitgoals.lamps import union\n\n\ndef f(union):\n    return union\n",
    "from relitgoals.lamps import union\n\n\ndef f():\n    union = 1\n    return union\n",
    "class C:\n    pass\n\n\ndef f(xs):\n    return [C for C in xs]\n",
)

# Each one is the body of a class Box whose sign reaches something that changes something.
STEPS = "def steps():\n    yield 1\n"
LISTED = "def listed():\n    return list(steps())\n"
MADE = "class Made:\n    def __init__(self):\n        self.rows = listed()\n"
BELOW = "class Below(Made):\n    def __init__(self):\n        super().__init__()\n        self.more = 1\n"
ABOVE = STEPS + LISTED + MADE + BELOW
WRONG_REACHES = {
    "yield in a sign": "    def __add__(self, other):\n        yield 1\n",
    "a generator": "    def __add__(self, other):\n        return list(steps())\n",
    "a generator through a function": "    def __and__(self, other):\n        return listed()\n",
    "a generator through __init__": "    def __invert__(self):\n        return Made()\n",
    "a generator through the __init__ of a base class": "    def __or__(self, other):\n        return Below()\n",
    "a generator through a method": "    def told(self):\n        return listed()\n\n"
                                    "    def __repr__(self):\n        return str(self.told())\n",
    "a property": "    @property\n    def many(self):\n        return listed()\n",
    "__len__": "    def __len__(self):\n        return len(listed())\n",
    "__eq__": "    def __eq__(self, other):\n        return listed() == other\n",
    "__str__": "    def __str__(self):\n        return str(listed())\n",
    "__contains__": "    def __contains__(self, x):\n        return x in listed()\n",
    "a property that is read": "    @property\n    def many(self):\n        return listed()\n\n"
                               "    def __neg__(self):\n        return self.many\n",
    "an attribute": "    def __len__(self):\n        self.x = 1\n        return 1\n",
    "an item": "    def __len__(self):\n        self.x[0] = 1\n        return 1\n",
    "append": "    def __add__(self, other):\n        self.x.append(other)\n        return self\n",
    "a call of what was passed": "    def __add__(self, other):\n        return other(1)\n",
    "in place": "    def __add__(self, other):\n        other += 1\n        return other\n",
}
RIGHT_REACHES = {
    "a method": "    def told(self):\n        return listed()\n",
    "a call": "    def __call__(self, x):\n        return listed()\n",
    "__init__": "    def __init__(self):\n        self.x = listed()\n",
    "a setter": "    @property\n    def many(self):\n        return 1\n\n"
                "    @many.setter\n    def many(self, value):\n        self.x = listed()\n",
    "a list of its own": "    def __add__(self, other):\n        rows = [1]\n        rows.append(2)\n        return rows\n",
    "a number of its own": "    def __add__(self, other):\n        x = 1\n        x += 2\n        return x\n",
}


def texts():
    return {path.stem: path.read_text(encoding="utf-8") for path in sorted(FOLDER.glob("*.py"))}


def class_named(name):
    return getattr(import_module(f"{PACKAGE}.{CLASSES[name][0]}"), name)


def reaches(body):
    return reach_faults({"box": ast.parse(ABOVE + "class Box:\n" + body)})


class LanguageTest(unittest.TestCase):
    def test_files(self):
        for path in FOLDER.iterdir():
            with self.subTest(path.name):
                self.assertTrue(path.name == "__pycache__" or re.fullmatch(r"__init__\.py|[a-z][a-z0-9_]*\.py", path.name))

    def test_each_file(self):
        for name, text in texts().items():
            with self.subTest(name):
                self.assertEqual(file_faults(text), [])

    def test_all_files_together(self):
        self.assertEqual(package_faults({name: ast.parse(text) for name, text in texts().items()}), [])

    def test_signs_and_properties_change_nothing(self):
        self.assertEqual(reach_faults({name: ast.parse(text) for name, text in texts().items()}), [])

    def test_wrong_reaches_are_found(self):
        for name, body in WRONG_REACHES.items():
            with self.subTest(name):
                self.assertNotEqual(reaches(body), [])
        for name, body in RIGHT_REACHES.items():
            with self.subTest(name):
                self.assertEqual(reaches(body), [])

    def test_wrong_files_are_found(self):
        for rule, text in WRONG_FILES.items():
            with self.subTest(rule):
                found = " ".join(fault for line, fault in file_faults(text))
                self.assertIn(rule, found.split())
        for text in WRONG_BINDINGS:
            with self.subTest(text):
                self.assertIn("L15", " ".join(fault for line, fault in file_faults(text)))

    def test_two_functions_with_the_name_of_a_generator_are_found(self):
        texts = {"one": "def steps():\n    yield 1\n", "two": "class C:\n    def steps(self):\n        return 1\n"}
        trees = {name: ast.parse(text) for name, text in texts.items()}
        self.assertEqual(package_faults(trees), ["L23 steps is the name of a generator and of another function"])


class InterfaceTest(unittest.TestCase):
    def test_functions(self):
        for module, functions in FUNCTIONS.items():
            for name, signature in functions.items():
                with self.subTest(name):
                    found = getattr(import_module(f"{PACKAGE}.{module}"), name)
                    self.assertEqual(str(inspect.signature(found)), signature)
                    self.assertEqual(found.__module__, f"{PACKAGE}.{module}")

    def test_classes(self):
        for name, (module, parameters, properties, methods) in CLASSES.items():
            found = class_named(name)
            self.assertEqual(found.__module__, f"{PACKAGE}.{module}")
            self.assertEqual(str(inspect.signature(found)), parameters)
            for property_name in properties.split():
                with self.subTest(name, property=property_name):
                    self.assertIsInstance(vars(found)[property_name], property)
            for method, signature in methods.items():
                with self.subTest(name, method=method):
                    self.assertIn(method, vars(found))
                    self.assertEqual(str(inspect.signature(getattr(found, method))), signature)
            self.assertIn("__init__", vars(found))

    def test_only_the_limit_can_be_assigned(self):
        for name, (module, parameters, properties, methods) in CLASSES.items():
            for property_name in properties.split():
                found = vars(class_named(name))[property_name]
                self.assertIs(found.fset is None, (name, property_name) != ("Book", "limit"))

    def test_base_classes(self):
        for name in CLASSES:
            base = class_named("Walk") if name == "Drive" else object
            self.assertEqual(class_named(name).__bases__, (base,))

    def test_class_values(self):
        for name, values in CLASS_VALUES.items():
            for value_name, value in values.items():
                self.assertEqual(vars(class_named(name))[value_name], value)

    def test_generators(self):
        for module, name in GENERATORS:
            with self.subTest(name):
                self.assertTrue(inspect.isgeneratorfunction(getattr(import_module(f"{PACKAGE}.{module}"), name)))
        self.assertTrue(inspect.isgeneratorfunction(class_named("Tree").branches))

    def test_of_sets_is_a_static_method(self):
        self.assertIsInstance(vars(class_named("Goal"))["of_sets"], staticmethod)


if __name__ == "__main__":
    unittest.main()
