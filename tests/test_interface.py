"""The whole interface: what is told by position is told by the parameter names [10]; general rules [11]."""

import copy
import importlib
import inspect
import unittest

from oddfigures import errors
from oddfigures.book import Book
from oddfigures.console import Console
from oddfigures.forms import Form
from oddfigures.machines import refuter, table
from oddfigures.running import Chain, Machine
from oddfigures.schemes import Scheme, plain_scheme
from tests.test_book import some_book
from tests.test_console import some_console
from tests.values import KEEPING, RECODING, any_values, signed

PLAIN = plain_scheme(2)
FREE = Scheme(2, [-1, 0, 1])
GAPS = Scheme(3, [0, 2])
ODD = Scheme(3, [0, 1, 5])
RECODED = Form([(1, PLAIN)], signed())
PRICES = {-1: 3, 0: 1, 1: 3}

# For each function of a module some arguments, and the parameter names in their order.
FUNCTIONS = {
    "digits": [
        ("is_integer", {"value": 5, "low": 0, "high": 9}), ("is_base", {"value": -6}), ("is_digit", {"value": 10}),
        ("row_text", {"row": (1, -1)}), ("read_row", {"text": "1 -1"}),
    ],
    "schemes": [("plain_scheme", {"base": -3})],
    "places": [
        ("core", {"scheme": ODD}), ("steps", {"scheme": ODD, "rest": 7, "right": 5}),
        ("is_written", {"scheme": ODD, "number": 7, "right": 1}),
        ("writing", {"scheme": FREE, "number": 7, "right": 1}),
        ("closed_list", {"scheme": ODD, "number": -1, "right": 0}),
        ("is_closed_list", {"scheme": ODD, "number": -1, "value": [(-1, 0), (-2, 5)], "right": 0}),
    ],
    "counts": [
        ("row_count", {"scheme": ODD, "length": 4}), ("greatest", {"scheme": ODD, "length": 4}),
        ("least", {"scheme": ODD, "length": 4}),
        ("plain_count", {"scheme": ODD, "number": 8}), ("plain_rows", {"scheme": FREE, "number": 3, "most": 4}),
        ("loop", {"scheme": FREE, "number": 3}), ("is_loop", {"scheme": FREE, "number": 1,
            "value": ((1,), (-1,), (-1,))}),
    ],
    "oneway": [
        ("two_rows", {"scheme": FREE}), ("one_way", {"scheme": FREE}), ("difference_paper", {"scheme": signed()}),
        ("is_difference_paper", {"scheme": PLAIN, "value": [(False, 0, None, None), (False, 0, 0, 0),
            (False, 0, 1, 1)]}),
    ],
    "prices": [
        ("price_of", {"scheme": FREE, "row": (1, 1), "prices": PRICES}),
        ("cheapest", {"scheme": FREE, "number": 7, "prices": PRICES}),
        ("potentials", {"scheme": FREE, "number": 7, "prices": PRICES}),
        ("is_cheapest", {"scheme": FREE, "number": 0, "prices": PRICES, "row": (),
            "amounts": [((0, None), 0), ((0, 0), 0)]}),
    ],
    "forms": [
        ("state_count", {"form": RECODED, "most": 100}), ("always_written", {"form": RECODED}),
        ("paper", {"form": RECODED}),
        ("is_paper", {"form": RECODED, "value": [RECODED.start()]}),
        ("failing", {"form": Form([(1, signed())], PLAIN)}),
    ],
    "wholes": [
        ("writes_all", {"scheme": ODD}), ("writes_up", {"scheme": PLAIN}), ("writes_down", {"scheme": PLAIN}),
        ("unwritten", {"scheme": PLAIN, "side": "down"}), ("alike", {"one": PLAIN, "other": signed()}),
        ("parting", {"one": PLAIN, "other": signed()}), ("closed_under", {"scheme": PLAIN, "word": "minus"}),
        ("breaking", {"scheme": PLAIN, "word": "minus"}),
    ],
    "machines": [
        ("table", {"form": RECODED, "lag": 1}), ("is_table", {"form": RECODED, "lag": 1, "value": table(RECODED, 1)}),
        ("least_lag", {"form": RECODED}), ("refuter", {"form": RECODED, "lag": 0}),
        ("is_refuter", {"form": RECODED, "lag": 0, "value": refuter(RECODED, 0)}),
    ],
    "running": [
        ("parting_rows", {"one": RECODING, "other": Machine(RECODED, 2, table(RECODED, 2))}),
        ("classes", {"machine": RECODING}),
    ],
    "fractions": [
        ("fraction_of", {"scheme": PLAIN, "front": (1,), "ring": (0, 1)}),
        ("endless_row", {"scheme": PLAIN, "top": 1, "bottom": 3}),
        ("endless_count", {"scheme": PLAIN, "top": 1, "bottom": 2}),
        ("why_none", {"scheme": GAPS, "top": 1, "bottom": 2}),
        ("is_why_none", {"scheme": GAPS, "top": 1, "bottom": 2, "value": [((1, None), 1), ((-1, 2), 0)]}),
    ],
}
# Some arguments of each method, for the object that a function makes.
METHODS = [
    (signed, "allows", {"left": 1, "right": 0}), (signed, "value_of", {"row": (1, 0, -1)}), (signed, "other_base", {}),
    (signed, "barred", {"bars": [(0, 0)]}), (signed, "free", {}), (signed, "with_digits", {"digits": [5]}),
    (signed, "without", {"digit": 0}),
    (signed, "read", {"text": "base 3; digits 0"}),
    (lambda: RECODED, "value_of", {"rows": [(1, 1)]}), (lambda: RECODED, "start", {}),
    (lambda: RECODED, "readings", {"state": RECODED.start()}),
    (lambda: RECODED, "after", {"state": RECODED.start(), "reading": (1,)}),
    (lambda: RECODING, "table", {}), (lambda: RECODING, "positions", {}),
    (lambda: RECODING, "__call__", {"rows": [(1, 1)]}),
    (lambda: RECODING >> KEEPING, "__call__", {"rows": [(1, 1)]}), (lambda: RECODING >> KEEPING, "machines", {}),
    (lambda: RECODING >> KEEPING, "writes", {}),
    (some_book, "keep", {"name": "d", "scheme": PLAIN}), (some_book, "put", {"name": "d", "where": "naf", "number": 5}),
    (some_book, "lay", {"name": "d", "where": "naf", "row": (1, 0)}),
    (some_book, "move", {"name": "a", "where": "naf"}),
    (some_book, "reckon", {"name": "d", "where": "naf", "terms": [(1, "a")]}), (some_book, "drop", {"name": "a"}),
    (some_book, "deeds", {}), (some_book, "undo", {}), (some_book, "done", {"action": lambda: 5, "keep": False}),
    (some_book, "schemes", {}),
    (some_book, "entries", {}), (some_book, "writers", {"name": "a"}), (some_book, "scheme_of", {"name": "naf"}),
    (some_book, "number_of", {"name": "a"}), (some_book, "row_of", {"name": "a"}), (some_book, "home", {"name": "a"}),
    (some_book, "surely", {"where": "plain", "terms": [(1, "a")]}),
    (some_console, "say", {"line": "drop a"}), (some_console, "said", {"lines": ["show a", "undo"]}),
    (some_console, "book", {}),
]


class InterfaceTest(unittest.TestCase):
    def function(self, module, name):
        return getattr(importlib.import_module("oddfigures." + module), name)

    def each_function(self):
        for module, calls in FUNCTIONS.items():
            for name, given in calls:
                yield self.function(module, name), given

    def test_functions_by_position_and_by_name(self):
        for function, given in self.each_function():
            self.assertEqual(list(inspect.signature(function).parameters), list(given), function)
            found = function(*given.values())
            self.assertEqual(function(**given), found, function)
            self.assertEqual(function(**dict(list(given.items())[::-1])), found, function)
            self.assertIs(function(**given).__class__, found.__class__)

    def test_they_stand_in_their_files(self):
        for module, calls in FUNCTIONS.items():
            for name, _ in calls:
                function = self.function(module, name)
                self.assertEqual([function.__module__, function.__name__], ["oddfigures." + module, name])
        for each, module in [
            (Scheme, "schemes"), (Form, "forms"), (Machine, "running"), (Chain, "running"), (Book, "book"),
            (Console, "console"),
        ]:
            self.assertEqual(each.__module__, "oddfigures." + module)

    def test_methods_by_position_and_by_name(self):
        for make, name, given in METHODS:
            one, other = make(), make()
            method = getattr(one, name)
            self.assertEqual(list(inspect.signature(method).parameters)[:len(given)], list(given), name)
            self.assertIn(name, vars(one.__class__))
            self.assertEqual(method(*given.values()), getattr(other, name)(**given), name)
            if isinstance(one, Book):
                self.assertIs(one == other, True)
        self.assertEqual(list(RECODING.track([(1, 1)])), list(RECODING.track(rows=[(1, 1)])))

    def test_classes_by_position_and_by_name(self):
        self.assertEqual(Scheme(2, [1, 0], bars=[(1, 1)]), Scheme(bars=[(1, 1)], digits=[1, 0], base=2))
        with self.assertRaises(TypeError):
            Scheme(2, [1, 0], [(1, 1)])
        self.assertEqual(Form([(1, PLAIN)], signed()), Form(target=signed(), terms=[(1, PLAIN)]))
        given = table(RECODED, 1)
        self.assertEqual(Machine(RECODED, 1, given), Machine(table=given, lag=1, form=RECODED))

    def test_defaults(self):
        for module, name, given in [
            ("places", "steps", (ODD, 7)), ("places", "is_written", (ODD, 7)), ("places", "writing", (ODD, 8)),
            ("places", "closed_list", (ODD, -1)), ("places", "is_closed_list", (ODD, -1, [(-1, None), (-2, 5)])),
        ]:
            function = self.function(module, name)
            self.assertEqual(function(*given), function(*given, None))
        state_count = self.function("forms", "state_count")
        self.assertEqual(state_count(RECODED), state_count(RECODED, 2000))

    def test_equal_calls_return_equal_results_and_change_no_arguments(self):
        for function, given in self.each_function():
            kept = copy.deepcopy(given)
            found = function(**given)
            self.assertEqual(given, kept)
            self.assertEqual(function(**given), found)

    def test_returned_lists_and_dicts_are_new(self):
        for function, given in self.each_function():
            found = function(**given)
            again = copy.deepcopy(found) if isinstance(found, (list, dict)) else None
            if again is not None:
                found.clear()
                self.assertEqual(function(**given), again, function)
        for make, name, given in METHODS:
            made = make()
            if name not in ("said", "reckon"):
                found = getattr(made, name)(**given)
                if isinstance(found, (list, dict)):
                    again = copy.copy(found)
                    found.clear()
                    self.assertEqual(getattr(made, name)(**given), again, name)

    def test_answers_are_true_or_false(self):
        for module, names in {
            "digits": ("is_integer", "is_base", "is_digit"), "places": ("is_written", "is_closed_list"),
            "counts": ("is_loop",),
            "oneway": ("one_way", "is_difference_paper"), "prices": ("is_cheapest",),
            "forms": ("always_written", "is_paper"),
            "wholes": ("writes_all", "writes_up", "writes_down", "alike", "closed_under"),
            "machines": ("is_table", "is_refuter"),
            "fractions": ("is_why_none",),
        }.items():
            calls = dict(FUNCTIONS[module])
            for name in names:
                self.assertIs(self.function(module, name)(**calls[name]).__class__, bool)

    def test_objects_are_equal_to_no_value_of_another_class(self):
        objects = [signed(), RECODED, RECODING, RECODING >> KEEPING, some_book()]
        for one in objects:
            for value in any_values() + [Console()]:
                if value.__class__ is not one.__class__:
                    self.assertIs(one == value, False)
                    self.assertIs(value == one, False)
                    self.assertIs(one != value, True)

    def test_no_error_is_left_out(self):
        names = [name for name,
            value in vars(errors).items() if inspect.isclass(value) and value.__module__ == errors.__name__]
        self.assertEqual(len(names), 32)


if __name__ == "__main__":
    unittest.main()
