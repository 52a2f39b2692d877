"""The interface: the names, the parameters in their order, and the files in which they are defined."""

import importlib
import inspect
import unittest

# What stands after the * is passed by name only; sizes has the default (2,).
FUNCTIONS = {
    "kinds": {
        "is_number": "thing", "is_name": "thing", "is_pair": "thing", "is_people": "thing", "is_ring": "thing",
        "is_row": "thing", "is_sizes": "thing",
    },
    "acceptchecker": {"lets_accepts": "thing"},
    "holdings": {
        "people_of": "accepts", "items_of": "accepts", "accepted_by": "accepts person", "is_holding": "accepts thing",
        "holdings_of": "accepts", "item_of": "holding person", "holder_of": "holding item",
    },
    "trades": {
        "bar_of": "accepts holding ring", "after_ring": "accepts holding ring", "after_row": "accepts holding *rings",
        "trades_in": "accepts holding * sizes",
    },
    "barerings": {"is_bare": "accepts thing", "bare_rings": "accepts", "widest_bare": "accepts"},
    "reaching": {
        "reachable": "accepts holding * sizes", "distance": "accepts begin goal * sizes",
        "least_row": "accepts begin goal * sizes", "rows_within": "accepts begin goal most * sizes",
    },
    "widths": {"width": "accepts begin goal", "classes": "accepts * sizes", "class_tree": "accepts"},
    "reachpapers": {"reach_paper": "accepts begin goal * sizes"},
    "widthpapers": {"width_paper": "accepts begin goal"},
    "widthchecker": {"lets_width": "accepts begin goal thing"},
    "shortcuts": {"shortcuts_of": "accepts holding ring", "split": "accepts holding ring shortcut"},
    "splitpapers": {"split_paper": "accepts holding ring * sizes"},
    "splitchecker": {"lets_split": "accepts holding ring thing * sizes"},
    "eventkinds": {"is_event": "thing"},
    "replaying": {"is_log": "thing", "replayed": "log"},
    "eventtexts": {"event_line": "event", "log_lines": "log"},
    "eventreadings": {"read_event": "text", "read_log": "lines"},
    "differences": {"difference": "begin goal", "needed": "begin goal"},
    "directs": {
        "is_direct": "accepts begin goal row", "direct_trades": "accepts begin goal * sizes",
        "direct_row": "accepts begin goal * sizes",
    },
    "directpapers": {"direct_paper": "accepts begin goal * sizes"},
    "directchecker": {"lets_direct": "accepts begin goal thing * sizes"},
    "efforts": {
        "parity_of": "begin goal", "least_effort": "accepts begin goal * sizes",
        "least_detour": "accepts begin goal * sizes",
    },
    "effortpapers": {"effort_paper": "accepts begin goal * sizes"},
    "effortchecker": {"lets_effort": "accepts begin goal thing * sizes"},
    "groups": {
        "with_group": "accepts begin goal group * sizes", "least_groups": "accepts begin goal * sizes",
        "least_helpers": "accepts begin goal * sizes", "groups_for": "accepts begin person item * sizes",
    },
    "groupchecker": {"lets_group": "accepts begin goal group thing * sizes"},
    "likes": {"lets_likes": "accepts thing", "rank_of": "likes person item"},
    "fairness": {
        "is_fair": "accepts likes holding ring", "fair_trades": "accepts likes holding * sizes",
        "is_settled": "accepts likes holding * sizes",
    },
    "endpapers": {"end_paper": "accepts likes begin goal * sizes"},
    "endchecker": {"lets_end": "accepts likes begin goal thing * sizes"},
    "ringtexts": {"ring_text": "ring", "row_text": "row", "holding_text": "holding", "accepts_text": "accepts"},
    "ringreadings": {"ring_read": "text", "row_read": "text", "holding_read": "text", "accepts_read": "text"},
    "grouppapers": {"group_paper": "accepts begin goal group * sizes"},
    "reachchecker": {"lets_reach": "accepts begin goal thing * sizes"},
    "offers": {
        "lets_offers": "accepts thing", "offers_reaching": "accepts begin goal offers * most sizes",
    },
    "ends": {
        "ends_of": "accepts likes holding * sizes", "best_end_for": "accepts likes holding person * sizes",
        "longest_ring": "accepts",
    },
}
# The methods that stand in the class itself, by their parameters; properties and class values have none.
CLASSES = {
    "handings": {
        "Handing": {
            "__init__": "self *rings", "MOST": None, "rings": None, "people": None, "effort": None, "parity": None,
            "detour": None, "__mul__": "self other", "__neg__": "self", "__pow__": "self other",
            "__eq__": "self other", "__lt__": "self other", "__le__": "self other", "__contains__": "self person",
            "__getitem__": "self person", "__len__": "self", "__bool__": "self", "__call__": "self holding",
            "powers": "self", "__str__": "self", "between": "begin goal", "read": "text",
        },
        "Ring": {"__init__": "self *people", "read": "text"},
        "Swap": {"__init__": "self one other"},
        "Still": {"__init__": "self"},
        "Row": {
            "__init__": "self *handings", "parts": None, "effort": None, "detour": None, "__str__": "self",
            "read": "text",
        },
    },
    "watching": {
        "Market": {
            "__init__": "self accepts holding * sizes goal", "MOST": None, "accepts": None, "holding": None,
            "sizes": None, "goal": None, "distance_to_goal": None, "width_to_goal": None, "set_goal": "self value",
            "set_sizes": "self value", "trade": "self ring", "accept": "self pair", "refuse": "self pair",
            "enter": "self person item", "leave": "self person", "go": "self event", "__call__": "self ring",
            "__getitem__": "self person", "__contains__": "self person", "__len__": "self", "__eq__": "self other",
            "tried": "self *events", "undo": "self", "do_all": "self *events * keep", "counts": "self",
            "advice": "self", "trades": "self", "table": "self", "log": "self", "__str__": "self", "read": "text",
        },
    },
    "desk": {"Desk": {"__init__": "self", "say": "self row", "counts": "self"}},
}
GENERATORS = {"holdings_of", "trades_in", "rows_within", "direct_trades", "fair_trades"}


def written(function):
    """The parameters as they are written above."""
    words = []
    for parameter in inspect.signature(function).parameters.values():
        if parameter.kind == parameter.KEYWORD_ONLY and "*" not in words:
            words.append("*")
        words.append("*" * (parameter.kind == parameter.VAR_POSITIONAL) + parameter.name)
    return " ".join(words)


class InterfaceTests(unittest.TestCase):
    def functions(self):
        for module, functions in FUNCTIONS.items():
            for name, parameters in functions.items():
                yield getattr(importlib.import_module(f"handround.{module}"), name), f"handround.{module}", parameters

    def test_parameters(self):
        for function, module, parameters in self.functions():
            self.assertEqual(written(function), parameters, function)

    def test_defaults(self):
        for function, module, parameters in self.functions():
            defaults = {parameter.name: parameter.default
                        for parameter in inspect.signature(function).parameters.values()
                        if parameter.default is not parameter.empty}
            expected = {"sizes": (2,), "most": None} if "* most" in parameters else {"sizes": (2,)}
            self.assertEqual(defaults, expected if "sizes" in parameters else {}, function)

    def test_files(self):
        for function, module, parameters in self.functions():
            self.assertEqual(function.__module__, module)

    def test_classes(self):
        for module, classes in CLASSES.items():
            for name, members in classes.items():
                made = getattr(importlib.import_module(f"handround.{module}"), name)
                self.assertEqual(made.__module__, f"handround.{module}")
                for member, parameters in members.items():
                    self.assertIn(member, vars(made), name)
                    if parameters is not None:
                        self.assertEqual(written(getattr(made, member)), parameters, (name, member))
                    elif member != "MOST":
                        self.assertIsInstance(vars(made)[member], property, (name, member))

    def test_class_methods(self):
        handings = importlib.import_module("handround.handings")
        self.assertIsInstance(vars(handings.Handing)["between"], staticmethod)
        for made in (handings.Handing, handings.Ring, handings.Row):
            self.assertIsInstance(vars(made)["read"], classmethod)
        self.assertTrue(inspect.isgeneratorfunction(handings.Handing.powers))

    def test_generators(self):
        for function, module, parameters in self.functions():
            self.assertIs(inspect.isgeneratorfunction(function), function.__name__ in GENERATORS, function)
