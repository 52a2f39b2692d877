"""The interface: the names, the parameters in their order, and the files in which they are defined."""

import importlib
import inspect
import unittest

# What stands after the * is passed by name only; sizes has the default (2,).
FUNCTIONS = {
    "kinds": {
        "is_number": "thing", "is_name": "thing", "is_pair": "thing", "is_people": "thing", "is_ring": "thing",
        "is_row": "thing", "is_sizes": "thing",
    },
    "acceptchecker": {"lets_accepts": "thing"},
    "holdings": {
        "people_of": "accepts", "items_of": "accepts", "accepted_by": "accepts person", "is_holding": "accepts thing",
        "holdings_of": "accepts", "item_of": "holding person", "holder_of": "holding item",
    },
    "trades": {
        "bar_of": "accepts holding ring", "after_ring": "accepts holding ring", "after_row": "accepts holding *rings",
        "trades_in": "accepts holding * sizes",
    },
    "barerings": {"is_bare": "accepts thing", "bare_rings": "accepts", "widest_bare": "accepts"},
    "reaching": {
        "reachable": "accepts holding * sizes", "distance": "accepts begin goal * sizes",
        "least_row": "accepts begin goal * sizes", "rows_within": "accepts begin goal most * sizes",
    },
    "widths": {"width": "accepts begin goal"},
    "eventkinds": {"is_event": "thing"},
    "replaying": {"is_log": "thing", "replayed": "log"},
    "eventtexts": {"event_line": "event", "log_lines": "log"},
    "eventreadings": {"read_event": "text", "read_log": "lines"},
    "differences": {"difference": "begin goal", "needed": "begin goal"},
    "directs": {
        "is_direct": "accepts begin goal row", "direct_trades": "accepts begin goal * sizes",
        "direct_row": "accepts begin goal * sizes",
    },
    "directpapers": {"direct_paper": "accepts begin goal * sizes"},
    "directchecker": {"lets_direct": "accepts begin goal thing * sizes"},
    "efforts": {
        "parity_of": "begin goal", "least_effort": "accepts begin goal * sizes",
        "least_detour": "accepts begin goal * sizes",
    },
    "effortpapers": {"effort_paper": "accepts begin goal * sizes"},
    "effortchecker": {"lets_effort": "accepts begin goal thing * sizes"},
    "groups": {
        "with_group": "accepts begin goal group * sizes", "least_groups": "accepts begin goal * sizes",
        "least_helpers": "accepts begin goal * sizes", "groups_for": "accepts begin person item * sizes",
    },
    "groupchecker": {"lets_group": "accepts begin goal group thing * sizes"},
    "likes": {"lets_likes": "accepts thing", "rank_of": "likes person item"},
    "fairness": {
        "is_fair": "accepts likes holding ring", "fair_trades": "accepts likes holding * sizes",
        "is_settled": "accepts likes holding * sizes",
    },
    "endpapers": {"end_paper": "accepts likes begin goal * sizes"},
    "endchecker": {"lets_end": "accepts likes begin goal thing * sizes"},
}
GENERATORS = {"holdings_of", "trades_in", "rows_within", "direct_trades", "fair_trades"}


def written(function):
    """The parameters as they are written above."""
    words = []
    for parameter in inspect.signature(function).parameters.values():
        if parameter.kind == parameter.KEYWORD_ONLY and "*" not in words:
            words.append("*")
        words.append("*" * (parameter.kind == parameter.VAR_POSITIONAL) + parameter.name)
    return " ".join(words)


class InterfaceTests(unittest.TestCase):
    def functions(self):
        for module, functions in FUNCTIONS.items():
            for name, parameters in functions.items():
                yield getattr(importlib.import_module(f"handround.{module}"), name), f"handround.{module}", parameters

    def test_parameters(self):
        for function, module, parameters in self.functions():
            self.assertEqual(written(function), parameters, function)

    def test_defaults(self):
        for function, module, parameters in self.functions():
            defaults = {parameter.name: parameter.default
                        for parameter in inspect.signature(function).parameters.values()
                        if parameter.default is not parameter.empty}
            self.assertEqual(defaults, {"sizes": (2,)} if "sizes" in parameters else {}, function)

    def test_files(self):
        for function, module, parameters in self.functions():
            self.assertEqual(function.__module__, module)

    def test_generators(self):
        for function, module, parameters in self.functions():
            self.assertIs(inspect.isgeneratorfunction(function), function.__name__ in GENERATORS, function)
