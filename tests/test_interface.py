"""The head of the interface: each listed name exists, and is defined where it is listed."""

import importlib
import inspect
import os
import unittest

from values import Case

FOLDER = os.path.join(os.path.dirname(os.path.dirname(os.path.abspath(__file__))), "signtown")

NAMES = {
    "errors": {
        "TownError": None, "BadInput": None, "Refused": None, "NoAnswer": None, "Barred": ["weights"],
        "BadName": ["value"], "BadPrice": ["value"], "BadNeed": ["value"], "BadStreet": ["part"],
        "BadTown": ["part"], "BadWard": ["part"], "BadSigns": ["part"], "BadWeights": ["part"],
        "BadText": ["line", "word"], "BadLine": ["word"], "NoCorner": ["name"], "NoStreet": ["name"],
        "NoRoad": ["name"], "NoSign": ["name"], "NotAlong": ["name"], "Level": ["corner"], "Unlike": ["part"],
        "TooMany": ["what", "most"], "NotGood": ["need"], "Empty": None, "NoSigns": None, "NoDeed": None,
    },
    "names": {"is_name": ["value"], "need_name": ["value"], "is_price": ["value"], "is_need": ["value"]},
    "streets": {
        "Street": None, "Settled": None, "Even": None, "Lane": ["name", "start", "goal"],
        "Avenue": ["name", "one", "other"], "Road": ["name", "one", "other", "there", "back"],
    },
    "wards": {"Ward": ["corners"]},
    "towns": {"Town": ["streets"]},
    "signs": {"Signs": ["parts"]},
    "leads": {
        "into": ["town", "signs", "ward"], "settled_into": ["town", "ward"], "within": ["town", "ward"],
        "in_counts": ["town", "signs"], "into_by_counts": ["town", "counts", "ward"],
    },
    "ways": {
        "is_walk": ["town", "signs", "start", "goal", "walk"], "bundle": ["town", "signs", "start", "goal"],
        "Bundle": ["walks", "ward"], "Ways": ["root", "out", "back"], "ways_of": ["town", "signs", "need"],
        "shows_bundle": ["town", "signs", "start", "goal", "value"], "shows_ways": ["town", "signs", "need", "value"],
    },
    "judge": {
        "judge": ["town", "signs", "need"], "Verdict": None, "Sound": ["ways"], "Short": ["ward"],
        "strength": ["town", "signs"], "Strength": ["number", "ward", "ways"],
        "shows_verdict": ["town", "signs", "need", "value"], "shows_strength": ["town", "signs", "value"],
    },
    "narrow": {
        "narrow_wards": ["town", "signs", "need"], "narrow_around": ["town", "signs", "need", "corner", "other"],
        "turn_alone": ["town", "signs", "need", "name"], "Turning": None, "Turned": ["signs", "ways"], "Tied": ["ward"],
    },
    "weights": {"Weights": ["parts"]},
    "best": {
        "cheapest": ["town", "need"], "Answer": None, "Best": ["cost", "signs", "ways", "weights"],
        "Never": ["weights"],
    },
    "lookers": {"Looker": ["town", "need"]},
    "counts": {
        "counted": ["town", "corner", "by"], "count_span": ["town", "need", "corner"], "signs_of": ["town", "counts"],
        "CountSpan": ["least", "most", "low", "high"], "Counted": ["signs"], "Crowded": ["corners"],
    },
    "moves": {
        "Turn": ["names", "start", "goal"], "exchange": ["town", "signs", "other", "need", "corner"],
        "move": ["town", "signs", "need", "start", "goal"], "Moved": ["turn", "signs", "ways"], "Stuck": ["ward"],
    },
    "steps": {
        "steps": ["town", "signs", "other", "need"], "fewest_turns": ["town", "signs", "other"],
        "shows_steps": ["town", "signs", "other", "need", "value"], "Step": ["turn", "signs"],
    },
    "choices": {
        "choice": ["town", "need", "name"], "sure_signs": ["town", "need"], "Choice": ["name", "one", "other"],
    },
    "nearest": {"kept": ["town", "signs"], "nearest": ["town", "need", "signs"]},
    "greatest": {
        "greatest": ["town"], "shows_greatest": ["town", "value"], "Greatest": ["number", "best", "never"],
    },
    "works": {"Works": ["town", "need"]},
    "texts": {
        "town_text": ["town"], "signs_text": ["signs"], "weights_text": ["weights"], "ways_text": ["ways"],
        "answer_text": ["answer"], "works_text": ["works"],
    },
    "reader": {
        "read_town": ["text"], "read_signs": ["text"], "read_weights": ["text"], "read_ways": ["text"],
        "read_answer": ["text"], "read_works": ["text"],
    },
    "desk": {"Desk": []},
}

STREET_METHODS = {
    "__contains__": ["self", "corner"], "far": ["self", "corner"], "leads": ["self", "goal"], "__invert__": ["self"],
    "renamed": ["self", "name"], "opened": ["self"], "__eq__": ["self", "other"], "__str__": ["self"],
}
ROAD_METHODS = {"price": ["self", "goal"], "signed": ["self", "goal"], "priced": ["self", "there", "back"]}

# Of each class its plain methods with their parameters, and its operators.
METHODS = {
    ("wards", "Ward"): {"rest": ["town"], "is_of": ["town"], "crosses": ["other", "town"]},
    ("towns", "Town"): {
        "shut": ["names"], "opened": ["names"], "priced": ["name", "there", "back"], "settled": ["signs"],
        "renamed": ["corners"], "wards": [],
    },
    ("signs", "Signs"): {
        "tail": ["name"], "turned": ["names"], "fits": ["town"], "price": ["town"], "__call__": ["corner"],
    },
    ("weights", "Weights"): {
        "__call__": ["corner"], "onto": ["start", "goal"], "needs": ["town", "need"], "bound": ["town", "need"],
        "excess": ["town", "need"], "is_clear": ["town"], "cleared": ["town"],
    },
    ("lookers", "Looker"): {
        "__call__": ["answer"], "is_sound": ["signs", "ways"], "is_short": ["signs", "ward"],
        "binds": ["weights", "price"], "bars": ["weights"],
    },
    ("moves", "Turn"): {"__call__": ["signs"], "stages": ["signs"]},
    ("choices", "Choice"): {"price": ["town", "goal"], "gap": ["town"], "settles": ["town"]},
    ("works", "Works"): {
        "set_need": ["need"], "put": ["street"], "shut": ["name"], "take": ["name"], "give": ["signs"],
        "turn_about": ["walk"], "answer": [], "finished": [], "price": [], "fill": [], "judge": [], "undo": [],
        "tried": [], "tried_by": ["work"], "attempt": ["work"], "twin": [],
    },
    ("desk", "Desk"): {"say": ["line"], "run": ["lines"], "works_now": [], "__call__": ["line"]},
}
OPERATORS = {
    ("wards", "Ward"): ["len", "contains", "iter", "or", "and", "sub", "le", "lt", "eq", "str"],
    ("towns", "Town"): [
        "getitem", "contains", "len", "iter", "or", "sub", "and", "le", "invert", "eq", "bool",
    ],
    ("signs", "Signs"): [
        "getitem", "contains", "len", "iter", "or", "and", "le", "sub", "invert", "call", "eq", "bool",
    ],
    ("ways", "Bundle"): ["len", "eq"],
    ("ways", "Ways"): ["eq"],
    ("judge", "Verdict"): ["bool"],
    ("judge", "Sound"): ["bool", "eq"],
    ("judge", "Short"): ["bool", "eq"],
    ("judge", "Strength"): ["eq"],
    ("narrow", "Turning"): ["bool"],
    ("narrow", "Turned"): ["bool", "eq"],
    ("narrow", "Tied"): ["bool", "eq"],
    ("weights", "Weights"): ["getitem", "contains", "len", "iter", "add", "mul", "rmul", "call", "eq", "bool"],
    ("best", "Answer"): ["bool"],
    ("best", "Best"): ["bool", "eq"],
    ("best", "Never"): ["bool", "eq"],
    ("lookers", "Looker"): ["call"],
    ("counts", "CountSpan"): ["bool", "eq"],
    ("counts", "Counted"): ["bool", "eq"],
    ("counts", "Crowded"): ["bool", "eq"],
    ("moves", "Turn"): ["len", "iter", "invert", "call", "eq"],
    ("moves", "Moved"): ["bool", "eq"],
    ("moves", "Stuck"): ["bool", "eq"],
    ("steps", "Step"): ["eq"],
    ("choices", "Choice"): ["eq"],
    ("greatest", "Greatest"): ["eq"],
    ("works", "Works"): ["getitem", "setitem", "contains", "len", "iter", "ior", "ixor", "eq"],
    ("desk", "Desk"): ["call", "len"],
}
PROPERTIES = {
    ("wards", "Ward"): ["corners"],
    ("towns", "Town"): ["streets", "names", "corners", "roads", "is_plain"],
    ("signs", "Signs"): ["names", "parts"],
    ("weights", "Weights"): ["parts"],
    ("counts", "Crowded"): ["corners"],
    ("moves", "Turn"): ["names", "is_ring"],
    ("works", "Works"): ["town", "given", "left", "need", "deeds"],
}
# Of each class its static and class methods.
MADE_BY = {
    ("wards", "Ward"): {"read": (classmethod, ["text"])},
    ("signs", "Signs"): {"cheap": (classmethod, ["town"]), "none": (staticmethod, [])},
    ("weights", "Weights"): {"none": (staticmethod, []), "of": (staticmethod, ["ward", "number"])},
}


def module_named(name):
    return importlib.import_module(f"signtown.{name}")


def class_named(place):
    file, name = place
    return getattr(module_named(file), name)


def parameters(callable_thing):
    return list(inspect.signature(callable_thing).parameters)


class InterfaceTest(Case):
    def test_names_are_defined_where_they_are_listed(self):
        for file, names in NAMES.items():
            for name, wanted in names.items():
                found = getattr(module_named(file), name)
                self.assertEqual(f"signtown.{file}", found.__module__)
                if wanted is not None:
                    self.assertEqual(wanted, parameters(found), name)

    def test_methods_of_streets_are_defined_in_their_classes(self):
        streets = module_named("streets")
        for kind in (streets.Street, streets.Lane, streets.Avenue, streets.Road):
            for name, wanted in STREET_METHODS.items():
                self.assertEqual(wanted, parameters(vars(kind)[name]), (kind, name))
            self.assertIsInstance(vars(kind)["ends"], property)
        for name, wanted in ROAD_METHODS.items():
            self.assertEqual(wanted, parameters(vars(streets.Road)[name]), name)

    def test_read_is_a_class_method_of_each_class(self):
        streets = module_named("streets")
        for name in NAMES["streets"]:
            kind = getattr(streets, name)
            self.assertIsInstance(vars(kind)["read"], classmethod, name)
            self.assertEqual(["text"], parameters(kind.read))

    def test_methods_are_defined_in_their_classes(self):
        for place, methods in METHODS.items():
            for name, wanted in methods.items():
                self.assertEqual(["self", *wanted], parameters(vars(class_named(place))[name]), (place, name))

    def test_operators_are_defined_in_their_classes(self):
        for place, names in OPERATORS.items():
            for name in names:
                self.assertIn(f"__{name}__", vars(class_named(place)))

    def test_properties_are_defined_in_their_classes(self):
        for place, names in PROPERTIES.items():
            for name in names:
                self.assertIsInstance(vars(class_named(place))[name], property, (place, name))

    def test_static_and_class_methods_are_defined_in_their_classes(self):
        for place, methods in MADE_BY.items():
            for name, (kind, wanted) in methods.items():
                self.assertIsInstance(vars(class_named(place))[name], kind, (place, name))
                self.assertEqual(wanted, parameters(getattr(class_named(place), name)), (place, name))

    def test_other_prices_are_passed_by_name(self):
        made = inspect.signature(class_named(("towns", "Town")).priced).parameters
        for name in ("there", "back"):
            self.assertIs(inspect.Parameter.KEYWORD_ONLY, made[name].kind)
            self.assertIsNone(made[name].default)

    def test_the_need_alone_can_be_assigned(self):
        for name in PROPERTIES["works", "Works"]:
            self.assertIs(name == "need", vars(module_named("works").Works)[name].fset is not None)

    def test_default_values(self):
        for call, name, wanted in (
                (module_named("streets").Road, "there", 0), (module_named("streets").Road, "back", 0),
                (module_named("weights").Weights.of, "number", 1), (module_named("counts").counted, "by", 1),
                (module_named("works").Works, "need", 1)):
            self.check_same(wanted, inspect.signature(call).parameters[name].default)

    def test_the_package_is_one_folder_of_plain_files(self):
        files = [name for name in os.listdir(FOLDER) if name != "__pycache__"]
        self.assertEqual([], [name for name in files if not name.endswith(".py")])
        self.assertIn("__init__.py", files)


if __name__ == "__main__":
    unittest.main()
