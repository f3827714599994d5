"""Each function, class and method of the interface takes its parameters by place and by their names, in any order."""

import importlib
import inspect
import random
import unittest

from oldaddress.desks import Desk
from oldaddress.histories import History
from oldaddress.lands import Land
from oldaddress.streets import Street
from tests.asking import example, waiting
from tests.test_form import CLASSES, INTERFACE, signatures

SMALL = Land(["a", "b"], 1)
TWO = History(Land(["a", "b"], 2), [("make", "a", 1), ("wait", 1)])
ALL = ("all", None, 1)


def street():
    history = History(Land(["a", "b"], 9), [("make", "a", 1), ("move", "a", "b"), ("make", "a", 1)])
    return Street(history, {"a": "n", "b": "s"}, {"n": "s", "s": None}, [("hand", 3, "a", "s")])


# What stands for a parameter where nothing else is told below.
COMMON = {
    "history": example(), "land": SMALL, "promise": ALL, "moment": 6, "later": None, "address": "a", "holder": ("a", 2),
    "life": 2, "policy": "all", "width": 2, "deed": ("end", "a"), "deeds": [("end", "a")], "numbers": [1, 0],
    "piece": 1, "index": 0, "thing": [], "one": "a", "other": "b", "first": 1, "last": 2, "k": 2, "pieces": 2, "days": 3,
    "due": ("b",), "view": lambda address, moment: moment, "state": ((0, 0), ((), ())), "word": "swap", "within": 1,
    "discipline": lambda history, deed: True, "asks": [("make", "a", 1)], "book": {"a": ("b",)},
    "day": 1, "pace": 1, "rest": 1, "moves": 1, "idle": 1, "letters": [("a", 1, 3)], "prices": [1] * 7, "stamp": 1,
    "rent": 1, "stays": [(0, 2, 1), (1, 3, 0)], "many": 2, "marks": 2, "late": 1, "street": street(), "houses": ["n"],
    "house": "n", "seen": [(1, 4, ("b",))], "forwarder": lambda address: (address,),
    "marker": lambda address, row, last: 1, "writer": (lambda addresses: {}, lambda slate, deed: slate),
    "keeper": lambda deeds, deed: True, "most": 2, "looks": [{}, {"a": None}], "text": "land\naddresses a b\nmost 1\n",
    "histories": [example(), example().ahead(0)], "learned": 2, "addresses": ["a", "b"], "order": ("do", ("end", "a")),
    "number": 1, "work": lambda desk: desk.count(), "owners": {"a": "n", "b": "n"}, "heirs": {"n": None}, "turns": [],
}
SPECIAL = {
    "are_twins": {"one": 1, "other": 2}, "holder_apart": {"one": 1, "other": 3}, "piece_due": {"holder": ("a", 1, 4)},
    "are_alike": {"one": ("a", 1), "other": ("a", 2)}, "deeds_apart": {"one": ("a", 1), "other": ("a", 2)},
    "misled": {"thing": {"a": ("b",)}}, "mended": {"thing": {"a": ("b",)}},
    "marked_table": {"marks": {"a": [(2, 3), (6, 6)], "b": [(2, 6)]}, "promise": ("all", None, 1)},
    "parting": {"one": TWO, "other": TWO.ahead(1)}, "alike_lot": {"one": TWO, "other": TWO},
    "is_alike_lot": {"one": TWO, "other": TWO}, "next_state": {"deed": ("make", "a", 1)},
    "is_good": {"first": 1, "last": 3}, "serving": {"history": TWO, "deed": ("end", "a")},
    "too_much": {"history": TWO}, "served_lot": {"history": TWO}, "is_served_lot": {"history": TWO},
    "least_within": {"history": TWO}, "obeys": {"history": TWO},
    "joining": {"one": example(), "other": waiting()}, "is_joining": {"one": example(), "other": waiting()},
    "no_room": {"one": example(), "other": waiting()}, "fits": {"history": TWO, "looks": [{}, {}, {}]},
    "break_forwarder": {"history": waiting(), "moment": 4}, "bad_runs": {"promise": ("all", None, 2)}, "write": {"thing": SMALL},
    "clash_with": {"promise": ("all", None, None)}, "door_clash": {"moment": 3}, "door_tables": {"moment": 3},
    "learned_at": {"moment": 1}, "comes_to": {"holder": ("a", 1), "moment": 3}, "closes_in": {"promise": ("all", None, 2)},
    "moved": {"day": 2}, "flow": {"moment": 2}, "went": {"moment": 2},
}
PLANNING = History(Land(["a", "b", "c"], 2), [("make", "a", 1), ("make", "b", 1)])
for planned in ("is_plan", "shortest_plan", "how_many", "cheapest_plan", "reached", "closed_lot", "is_closed_lot"):
    SPECIAL[planned] = {"history": PLANNING, "wish": {"b": [(1, 1)]}, "prices": (1, 1)}
# Parts of classes that need others.
OBJECTS = {
    "Land": lambda: Land(["a", "b"], 9), "History": example, "Street": street,
    "Desk": lambda: Desk(Land(["a", "b"], 9)).at(0),
}
METHODS = {
    ("Desk", "days_for"): {"deed": ("make", "a", 1)}, ("Desk", "would"): {"order": ("do", ("make", "a", 1))},
    ("Desk", "give"): {"order": ("do", ("make", "a", 1))}, ("Desk", "at"): {"number": 0},
    ("Street", "owner"): {"moment": 3}, ("Street", "door"): {"moment": 3}, ("Street", "__init__"): {
        "history": TWO, "turns": [("close", 1, "n")]},
    ("History", "__init__"): {"deeds": [("make", "a", 1)]}, ("Land", "__init__"): {"most": 3},
}


def told(call, *parts, **named):
    """What a call tells, or which error it raises: as something that can be compared."""
    try:
        found = call(*parts, **named)
    except Exception as error:
        return (type(error).__name__, repr(vars(error)))
    return found


class Names(unittest.TestCase):
    def alike(self, one, other):
        if callable(one) and not isinstance(one, (Land, History, Street, Desk)):
            self.assertTrue(callable(other))
            return
        self.assertEqual(one, other)

    def check(self, make, special):
        """Makes a call anew each time: by place, by names in three orders, and both mixed."""
        call = make()
        parameters = [name for name in inspect.signature(call).parameters]
        values = {name: special.get(name, COMMON.get(name)) for name in parameters}
        by_place = told(call, *values.values())
        self.assertFalse(isinstance(by_place, tuple) and by_place[:1] == ("TypeError",), (call, by_place))
        rng = random.Random(len(parameters))
        for order in (parameters, parameters[::-1], rng.sample(parameters, len(parameters))):
            self.alike(told(make(), **{name: values[name] for name in order}), by_place)
        for ahead in range(len(parameters)):
            rest = {name: values[name] for name in parameters[ahead:][::-1]}
            self.alike(told(make(), *[values[name] for name in parameters[:ahead]], **rest), by_place)
        for name, parameter in inspect.signature(call).parameters.items():
            if parameter.default is not inspect.Parameter.empty:
                self.assertIsNone(parameter.default)
                without = {other: values[other] for other in parameters if other != name}
                self.alike(told(make(), **without), told(make(), **without, **{name: None}))
        return by_place

    def test_functions(self):
        refused = []
        for name, text in INTERFACE.items():
            module = importlib.import_module("oldaddress." + name)
            for signature in signatures(text):
                function = getattr(module, signature.split("(")[0])
                found = self.check(lambda: function, SPECIAL.get(function.__name__, {}))
                if isinstance(found, tuple) and found and isinstance(found[0], str) and found[0].startswith(("Bad", "No")):
                    refused.append((function.__name__, found))
        self.assertEqual(refused, [])

    def test_classes_and_methods(self):
        for (name, owner), text in CLASSES.items():
            module = importlib.import_module("oldaddress." + name)
            for signature in signatures(text):
                method = signature.split("(")[0]
                special = METHODS.get((owner, method), {})
                if method == "__init__":
                    self.check(lambda: getattr(module, owner), special)
                elif method != "__eq__":
                    self.check(lambda: getattr(OBJECTS[owner](), method), special)


if __name__ == "__main__":
    unittest.main()
