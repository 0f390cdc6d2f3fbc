import ast
import importlib
import inspect
import unittest
from pathlib import Path

from coolway.maps import Map

PACKAGE = Path(__file__).resolve().parent.parent / "coolway"
LINE = Map(3, ((0, 1, 2, 1), (1, 2, 2, 1)), (2, 5, None), (4, 0))
TIGHT = Map(3, LINE.roads, LINE.prices, (2, 0))
STEEP = Map(3, ((0, 1, 2, 1), (1, 2, 1, 3)), (9, 1, None), (6, 0))
LATE = (0, 0, 0, 1)
LOG = [((4, 0), 1), ((1, 1), 0)]

FUNCTIONS = {
    "maps": {"moves": "chart state", "results": "chart state move"},
    "sure": {"sure": "chart state", "sure_cost": "chart state"},
    "worths": {"late_prices": "chart", "late_pairs": "chart", "room_prices": "chart late"},
    "plans": {"all_plans": "chart", "spoiling": "chart plan late", "fixed": "chart late", "fixed_cost": "chart late"},
    "drivers": {"next_move": "chart state driver", "judge": "chart state driver", "driver_cost": "chart state driver"},
    "knowing": {"known": "chart late", "known_cost": "chart late", "not_knowing": "chart late"},
    "logs": {"after_log": "chart state log", "spent": "chart state log", "melted": "chart state log"},
    "sessions": {},
    "texts": {"map_text": "chart", "state_text": "chart state", "read_map": "text", "read_state": "chart text"},
    "needs": {"needs": "chart purse", "need_at": "chart purse place warm late"},
    "regrets": {
        "paid_with": "chart driver late news",
        "regret": "chart driver late",
        "greatest_regret": "chart driver late",
    },
    "asking": {
        "with_asking": "chart state fee",
        "asked_cost": "chart state fee",
        "judge_asking": "chart state fee",
        "does_help": "chart state fee",
        "greatest_fee": "chart late",
    },
}
# For each class: what it is made of, what shows takes, and its other methods with what they take.
CLASSES = {
    "maps": {"Map": ("places roads prices box", None, {"__len__": "", "__eq__": "other"})},
    "sure": {
        "Sure": ("cost heights levels", "chart state", {"__eq__": "other"}),
        "Spoils": ("states", "chart state", {"__eq__": "other", "__iter__": ""}),
    },
    "plans": {
        "Fixed": ("plan doubts", "chart late", {"__eq__": "other", "__iter__": ""}),
        "NoFixed": ("doubts", "chart late", {"__eq__": "other", "__iter__": ""}),
    },
    "drivers": {
        "Arrives": ("cost delays heights", "chart state driver", {"__eq__": "other"}),
        "Fails": ("delays", "chart state driver", {"__eq__": "other"}),
    },
    "knowing": {
        "Known": ("cost plans news", "chart late", {"__eq__": "other", "__iter__": ""}),
        "Hopeless": ("news", "chart late", {"__eq__": "other"}),
    },
    "sessions": {
        "Session": (
            "chart late",
            None,
            {
                "__len__": "",
                "__iter__": "",
                "is_there": "",
                "paid": "",
                "drive": "move more",
                "undo": "",
                "branch": "",
                "trial": "",
                "attempt": "work",
                "tried": "log",
            },
        ),
    },
    "needs": {"Needs": ("needs heights levels states", "chart purse", {"__eq__": "other"})},
    "regrets": {
        "Regret": ("number news plan", "chart driver late", {"__eq__": "other"}),
        "NoRegret": ("news", "chart driver late", {"__eq__": "other"}),
    },
    "asking": {
        "Asked": ("cost heights levels", "chart state fee", {"__eq__": "other"}),
        "Helps": ("number heights levels", "chart state fee", {"__eq__": "other"}),
        "Idle": ("number heights levels", "chart state fee", {"__eq__": "other"}),
    },
}
PROPERTIES = {("maps", "Map"): "places roads prices box", ("sessions", "Session"): "state journal"}
ERRORS = (
    "BadMap BadState BadMove BadLateness BadPlan TooLarge BadDriver BadMore Spoiled NothingDone BadLog BadPurse BadNews "
    "BadFee BadText"
)


def module(name):
    return importlib.import_module("coolway." + name)


def parameters(thing):
    return [name for name in inspect.signature(thing).parameters if name != "self"]


def answers():
    """All calls that return a list, a dict or an object, by what they should be called."""
    from coolway import asking, drivers, knowing, logs, maps, needs, plans, regrets, sessions, sure, texts, worths

    session = sessions.Session(LINE, 1)
    session.drive(*LOG[0])
    return {
        "moves": lambda: maps.moves(LINE, LATE),
        "results": lambda: maps.results(LINE, LATE, (4, 0)),
        "sure": lambda: sure.sure(LINE, LATE),
        "spoils": lambda: sure.sure(TIGHT, LATE),
        "late_prices": lambda: worths.late_prices(LINE),
        "late_pairs": lambda: worths.late_pairs(LINE),
        "room_prices": lambda: worths.room_prices(LINE, 1),
        "all_plans": lambda: plans.all_plans(LINE),
        "fixed": lambda: plans.fixed(LINE, 1),
        "nofixed": lambda: plans.fixed(TIGHT, 1),
        "judge": lambda: drivers.judge(LINE, LATE, "safe"),
        "fails": lambda: drivers.judge(LINE, LATE, "bare"),
        "known": lambda: knowing.known(LINE, 1),
        "hopeless": lambda: knowing.known(LINE, 3),
        "spent": lambda: logs.spent(LINE, LATE, LOG),
        "melted": lambda: logs.melted(LINE, LATE, LOG),
        "journal": lambda: session.journal,
        "tried": lambda: session.tried(LOG[1:]),
        "branch": session.branch,
        "read_map": lambda: texts.read_map(texts.map_text(LINE)),
        "needs": lambda: needs.needs(LINE, 9),
        "regret": lambda: regrets.regret(LINE, "safe", 1),
        "noregret": lambda: regrets.regret(LINE, "bare", 1),
        "with_asking": lambda: asking.with_asking(LINE, LATE, 1),
        "asking_spoils": lambda: asking.with_asking(TIGHT, LATE, 1),
        "helps": lambda: asking.judge_asking(STEEP, LATE, 1),
        "idle": lambda: asking.judge_asking(LINE, LATE, 1),
        "judge_spoils": lambda: asking.judge_asking(TIGHT, LATE, 1),
    }


class Homes(unittest.TestCase):
    """Every name of the interface, in the file under which it is listed."""

    def defined(self, name):
        tree = ast.parse((PACKAGE / (name + ".py")).read_text())
        return {node.name: node for node in tree.body if isinstance(node, (ast.FunctionDef, ast.ClassDef))}

    def test_functions(self):
        for name, listed in FUNCTIONS.items():
            defined = self.defined(name)
            for function, told in listed.items():
                self.assertIsInstance(defined.get(function), ast.FunctionDef, function)
                thing = getattr(module(name), function)
                self.assertEqual(thing.__module__, "coolway." + name)
                self.assertEqual(parameters(thing), told.split(), function)

    def test_classes_and_their_methods(self):
        for name, listed in CLASSES.items():
            defined = self.defined(name)
            for owner, (made, shown, others) in listed.items():
                self.assertIsInstance(defined.get(owner), ast.ClassDef, owner)
                thing = getattr(module(name), owner)
                self.assertEqual(thing.__module__, "coolway." + name)
                methods = {"__init__": made, **others}
                if shown is not None:
                    methods["shows"] = shown
                for method, told in methods.items():
                    self.assertIn(method, vars(thing), owner)
                    self.assertEqual(parameters(vars(thing)[method]), told.split(), (owner, method))

    def test_properties(self):
        for (name, owner), told in PROPERTIES.items():
            for each in told.split():
                found = vars(getattr(module(name), owner)).get(each)
                self.assertIsInstance(found, property, (owner, each))
                self.assertIsNone(found.fset)

    def test_errors(self):
        defined = self.defined("errors")
        for each in ["CoolError"] + ERRORS.split():
            self.assertIsInstance(defined.get(each), ast.ClassDef, each)

    def test_words(self):
        self.assertEqual(module("drivers").DRIVERS, ("bare", "safe", "fill", "thrifty"))

    def test_attributes_are_set_at_once(self):
        for name, listed in CLASSES.items():
            for owner, (made, shown, _) in listed.items():
                if shown is None:
                    continue
                values = {each: {} for each in made.split()}
                if "states" in values:
                    values["states"] = []
                found = getattr(module(name), owner)(**values)
                for each, value in values.items():
                    self.assertEqual(getattr(found, each), value, (owner, each))


class New(unittest.TestCase):
    """Every returned list, dict and object is new each time, and nothing that was returned is kept."""

    def parts(self, found):
        """The lists and dicts that an answer is or has."""
        held = [found] if isinstance(found, (list, dict)) else list(getattr(found, "__dict__", {}).values())
        return [part for part in held if isinstance(part, (list, dict))]

    def test_new_each_time(self):
        for name, call in answers().items():
            first, second = call(), call()
            self.assertIsNot(first, second, name)
            for one in self.parts(first):
                for other in self.parts(second):
                    self.assertIsNot(one, other, name)

    def test_changing_an_answer_changes_no_other(self):
        for name, call in answers().items():
            first, expected = call(), call()
            told = repr([vars(expected) if hasattr(expected, "shows") else expected])
            for part in self.parts(first):
                part.clear()
            self.assertEqual(repr([vars(expected) if hasattr(expected, "shows") else expected]), told, name)
            if name not in ("branch", "read_map"):
                self.assertEqual(call(), expected, name)

    def test_parts_of_one_answer_are_not_shared(self):
        for name, call in answers().items():
            parts = self.parts(call())
            self.assertEqual(len({id(part) for part in parts}), len(parts), name)


if __name__ == "__main__":
    unittest.main()
