"""The interface: its names, arguments and kinds as they stand in the document."""

import importlib
import inspect
import unittest

from tests.sets import deep_kinds

ARGUMENTS = {
    "throng.rows": {
        "is_row": ["thing", "width"], "is_letter": ["thing", "width"], "row_holds": ["row", "letter"],
        "row_meet": ["one", "other"], "row_within": ["one", "other"], "row_size": ["row"], "row_least": ["row"],
        "row_written": ["row", "over"], "row_less": ["one", "other"],
    },
    "throng.heaps": {
        "heap_has": ["heap", "letter"], "heap_apart": ["heap"], "heap_meet": ["one", "other"],
        "heap_less": ["one", "other"], "heap_size": ["heap"], "heap_missing": ["one", "other"],
        "heap_parted": ["one", "other"],
    },
    "throng.graphs": {
        "graph_of": ["heap"], "graph_has": ["graph", "letter"], "graph_size": ["graph", "width"],
        "graph_rows": ["graph", "width"], "graph_least": ["graph", "width"],
    },
    "throng.blends": {
        "graph_blend": ["one", "other", "word"], "graph_other": ["graph"], "graph_under": ["graph", "over"],
    },
    "throng.fields": {
        "layout_width": ["layout"], "field_span": ["layout", "name"], "field_row": ["layout", "parts"],
        "field_part": ["layout", "name", "row"],
    },
    "throng.rules": {
        "rule_first": ["rules", "letter"], "rule_deed": ["rules", "letter"], "rule_shares": ["rules", "row"],
        "rule_needed": ["rules", "number", "width"], "rules_thinned": ["rules", "width"],
    },
    "throng.ways": {
        "way_found": ["ways", "signs"], "way_rows": ["ways", "size"], "ways_thinned": ["ways", "size"], "Tree": [],
    },
    "throng.houses": {
        "house_does": ["layout", "house", "door", "letter"], "house_shares": ["layout", "house", "door", "row"],
        "house_back": ["layout", "house", "door", "out", "graph"],
    },
    "throng.nets": {
        "net_checked": ["net"], "net_spots": ["net"], "net_open": ["net"], "net_house": ["net", "name"],
        "net_tied": ["net", "house", "door"],
    },
    "throng.walks": {
        "net_walk": ["net", "house", "door", "letter"], "net_fared": ["net", "house", "door", "letter"],
    },
    "throng.classes": {"net_classes": ["net", "house", "door", "heap"]},
    "throng.backs": {"net_back": ["net", "house", "door", "graph"], "net_picture": ["net", "house", "door"]},
    "throng.asks": {"can_come": ["net", "house", "door", "heap", "goal", "beside"]},
    "throng.keeps": {"Keeper": ["net"]},
    "throng.twins": {"net_parted": ["one", "other"]},
    "throng.thins": {"rule_parts": ["net", "house", "door", "number"], "net_thinned": ["net"]},
    "throng.kinds": {"net_kinds": ["net"]},
    "throng.demands": {"demand_broken": ["net", "demand"]},
    "throng.turns": {"net_mixed": ["one", "other", "names"], "turn_order": ["one", "other", "demands"]},
}
DEFAULTS = {("can_come", "beside"): None}
TREE_METHODS = {
    "put_way": ["beginning", "door"], "strike_way": ["beginning"], "way_at": ["signs"], "told_ways": [],
    "ways_below": ["signs"],
}
KEEPER_METHODS = {
    "told": ["house", "door"], "picture": ["house", "door"], "net_now": [],
    "put_rule": ["house", "door", "number", "rule"], "strike_rule": ["house", "door", "number"],
    "put_way": ["house", "beginning", "door"], "strike_way": ["house", "beginning"], "tie": ["one", "other"],
    "untie": ["house", "door"],
}
GRAPH = (2, [(1, 0, 1)])
GRAPH_KIND = (tuple, [int, (list, [(tuple, [int, int, int])])])
LAYOUT = [("a", 1), ("to", 2)]
RULES = [("0-", "pass", "-1"), ("-1", "drop", "--")]
WAYS = [("0", "in"), ("01", "out")]
HOUSE = ([("in", [("0--", "pass", "--1"), ("11-", "drop", "---")]), ("out", [])], [("0", "out")])
NET = (LAYOUT, [("a", HOUSE), ("b", HOUSE)], [(("a", "out"), ("b", "out"))])
# Nets of one house without lines, with a needless rule and without it.
OPEN_NET = (LAYOUT, [("a", HOUSE)], [])
NEEDED_NET = (LAYOUT, [("a", ([("in", HOUSE[0][0][1][:1]), ("out", [])], HOUSE[1]))], [])
NEEDED_KIND = deep_kinds(NEEDED_NET)
SPOT_KIND = (tuple, [str, str])
GATES_KIND = (list, [(tuple, [str, (list, [(tuple, [str] * 3)] * 2)]), (tuple, [str, (list, [])])])
HOUSE_KIND = (tuple, [GATES_KIND, (list, [(tuple, [str] * 2)])])
NET_KIND = (tuple, [(list, [(tuple, [str, int])] * 2), (list, [(tuple, [str, HOUSE_KIND])] * 2),
                    (list, [(tuple, [SPOT_KIND, SPOT_KIND])])])
ENDS_KIND = [(tuple, [str, (tuple, [str, str, str, int]), (list, [str])])]
IN_A = {"house": "a", "door": "in"}
# Each with arguments by name, and the kind of what is told.
KINDS = [
    ("rows", "is_row", {"thing": "0-", "width": 2}, bool), ("rows", "is_row", {"thing": None, "width": 2}, bool),
    ("rows", "is_letter", {"thing": "01", "width": 2}, bool), ("rows", "is_letter", {"thing": 1, "width": 1}, bool),
    ("rows", "row_holds", {"row": "0-", "letter": "01"}, bool),
    ("rows", "row_meet", {"one": "0-", "other": "-1"}, str), ("rows", "row_meet", {"one": "0", "other": "1"}, None),
    ("rows", "row_within", {"one": "01", "other": "0-"}, bool), ("rows", "row_size", {"row": "0-"}, int),
    ("rows", "row_least", {"row": "0-"}, str), ("rows", "row_written", {"row": "0-", "over": "-1"}, str),
    ("rows", "row_less", {"one": "--", "other": "01"}, [str]), ("rows", "row_less", {"one": "0", "other": "-"}, []),
    ("heaps", "heap_has", {"heap": ["0-"], "letter": "01"}, bool),
    ("heaps", "heap_apart", {"heap": ["0-", "-0"]}, [str]), ("heaps", "heap_apart", {"heap": []}, []),
    ("heaps", "heap_meet", {"one": ["0-"], "other": ["-0"]}, [str]),
    ("heaps", "heap_less", {"one": ["0-"], "other": ["-0"]}, [str]),
    ("heaps", "heap_size", {"heap": ["0-", "-0"]}, int), ("heaps", "heap_size", {"heap": []}, int),
    ("heaps", "heap_missing", {"one": ["0-"], "other": ["-0"]}, str),
    ("heaps", "heap_missing", {"one": ["00"], "other": ["-0"]}, None),
    ("heaps", "heap_parted", {"one": ["0-"], "other": ["-0"]}, str),
    ("heaps", "heap_parted", {"one": ["0"], "other": ["0"]}, None),
    ("graphs", "graph_has", {"graph": GRAPH, "letter": "01"}, bool),
    ("graphs", "graph_size", {"graph": GRAPH, "width": 2}, int),
    ("graphs", "graph_size", {"graph": (0, []), "width": 2}, int),
    ("graphs", "graph_rows", {"graph": GRAPH, "width": 2}, [str]),
    ("graphs", "graph_rows", {"graph": (0, []), "width": 2}, []),
    ("graphs", "graph_least", {"graph": GRAPH, "width": 2}, str),
    ("graphs", "graph_least", {"graph": (0, []), "width": 2}, None),
    ("blends", "graph_blend", {"one": GRAPH, "other": (0, []), "word": "join"}, GRAPH_KIND),
    ("blends", "graph_blend", {"one": GRAPH, "other": GRAPH, "word": "either"}, (tuple, [int, (list, [])])),
    ("blends", "graph_other", {"graph": GRAPH}, GRAPH_KIND),
    ("blends", "graph_under", {"graph": GRAPH, "over": "1-"}, GRAPH_KIND),
    ("blends", "graph_under", {"graph": GRAPH, "over": "-1"}, (tuple, [int, (list, [])])),
    ("fields", "layout_width", {"layout": LAYOUT}, int),
    ("fields", "field_span", {"layout": LAYOUT, "name": "to"}, (tuple, [int, int])),
    ("fields", "field_row", {"layout": LAYOUT, "parts": [("to", "0-")]}, str),
    ("fields", "field_part", {"layout": LAYOUT, "name": "to", "row": "0-1"}, str),
    ("rules", "rule_first", {"rules": RULES, "letter": "01"}, int),
    ("rules", "rule_deed", {"rules": RULES, "letter": "01"}, (tuple, [str, str])),
    ("rules", "rule_deed", {"rules": RULES, "letter": "11"}, (tuple, [str, type(None)])),
    ("rules", "rule_shares", {"rules": RULES, "row": "--"}, [(tuple, [str, int])]),
    ("rules", "rule_needed", {"rules": RULES, "number": 0, "width": 2}, str),
    ("rules", "rule_needed", {"rules": RULES, "number": 1, "width": 2}, None),
    ("rules", "rules_thinned", {"rules": RULES, "width": 2}, [(tuple, [str, str, str])]),
    ("rules", "rules_thinned", {"rules": RULES[1:], "width": 2}, []),
    ("ways", "way_found", {"ways": WAYS, "signs": "01"}, str), ("ways", "way_found", {"ways": WAYS, "signs": ""}, None),
    ("ways", "way_rows", {"ways": WAYS + [("", "in")], "size": 2}, [(tuple, [str, str])]),
    ("ways", "way_rows", {"ways": [], "size": 2}, [(tuple, [str, type(None)])]),
    ("ways", "ways_thinned", {"ways": WAYS, "size": 2}, [(tuple, [str, str])]),
    ("ways", "ways_thinned", {"ways": [], "size": 2}, []),
    ("houses", "house_does", {"layout": LAYOUT, "house": HOUSE, "door": "in", "letter": "000"}, (tuple, [str] * 3)),
    ("houses", "house_does", {"layout": LAYOUT, "house": HOUSE, "door": "in", "letter": "010"}, (tuple, [str])),
    ("houses", "house_does", {"layout": LAYOUT, "house": HOUSE, "door": "out", "letter": "010"}, (tuple, [str, int])),
    ("houses", "house_shares", {"layout": LAYOUT, "house": HOUSE, "door": "in", "row": "00-"},
     [(tuple, [str, (tuple, [str, str, str])])]),
    ("houses", "house_shares", {"layout": LAYOUT, "house": HOUSE, "door": "in", "row": "1--"},
     [(tuple, [str, (tuple, [str, int])])]),
    ("houses", "house_back", {"layout": LAYOUT, "house": HOUSE, "door": "in", "out": "none", "graph": (1, [])},
     (tuple, [int, (list, [])])),
    ("nets", "net_checked", {"net": NET}, bool), ("nets", "net_spots", {"net": NET}, [SPOT_KIND]),
    ("nets", "net_spots", {"net": (LAYOUT, [], [])}, []), ("nets", "net_open", {"net": NET}, [SPOT_KIND]),
    ("nets", "net_open", {"net": (LAYOUT, [], [])}, []), ("nets", "net_house", {"net": NET, "name": "b"}, HOUSE_KIND),
    ("nets", "net_tied", {"net": NET, "house": "a", "door": "out"}, SPOT_KIND),
    ("nets", "net_tied", {"net": NET, **IN_A}, None),
    ("walks", "net_walk", {"net": NET, **IN_A, "letter": "010"},
     (tuple, [(list, [(tuple, [str] * 3)]), (tuple, [str] * 3)])),
    ("walks", "net_fared", {"net": NET, **IN_A, "letter": "010"}, (tuple, [str])),
    ("walks", "net_fared", {"net": (LAYOUT, NET[1], []), **IN_A, "letter": "000"}, (tuple, [str] * 4)),
    ("classes", "net_classes", {"net": NET, **IN_A, "heap": ["010"]},
     [(tuple, [str, (tuple, [str] * 3), (list, [str])])]),
    ("classes", "net_classes", {"net": NET, **IN_A, "heap": ["111"]},
     ENDS_KIND),
    ("classes", "net_classes", {"net": NET, **IN_A, "heap": []}, []),
    ("backs", "net_back", {"net": NET, **IN_A, "graph": GRAPH}, [(tuple, [SPOT_KIND, (tuple, [int, (list, [])])])]),
    ("backs", "net_picture", {"net": NET, "house": "b", "door": "out"},
     [(tuple, [(tuple, [str, str, str, int]), (tuple, [int, (list, [])])])]),
    ("asks", "can_come", {"net": NET, **IN_A, "heap": ["111"], "goal": ("b", "in", ["---"]), "beside": "b"},
     (tuple, [str, (list, ENDS_KIND)])),
    ("asks", "can_come", {"net": NET, **IN_A, "heap": [], "goal": ("b", "in", [])}, (tuple, [str, (list, [])])),
    ("asks", "can_come", {"net": (LAYOUT, NET[1], []), **IN_A, "heap": ["---"], "goal": ("a", "out", ["---"])},
     (tuple, [str, str])),
    ("twins", "net_parted", {"one": NET, "other": NET}, None),
    ("twins", "net_parted", {"one": (LAYOUT, [("a", HOUSE)], []), "other": (LAYOUT, [("a", (HOUSE[0], []))], [])},
     (tuple, [str] * 3)),
    ("thins", "rule_parts", {"net": NET, **IN_A, "number": 1}, None),
    ("thins", "rule_parts", {"net": OPEN_NET, **IN_A, "number": 0}, (tuple, [str] * 3)),
    ("thins", "net_thinned", {"net": NEEDED_NET}, NEEDED_KIND),
    ("kinds", "net_kinds", {"net": NET}, [(tuple, [int, (list, [(tuple, [int] * 3)] * 2)])]),
    ("kinds", "net_kinds", {"net": (LAYOUT, [], [])}, [(tuple, [int, (list, [])])]),
    ("demands", "demand_broken", {"net": NET, "demand": ("calm", "a", "in", ["---"], None, None)}, None),
    ("demands", "demand_broken", {"net": NET, "demand": ("all", "a", "in", ["---"], ("b", "in", []), None)}, str),
    ("turns", "net_mixed", {"one": NET, "other": NET, "names": ["a"]}, NET_KIND),
    ("turns", "turn_order", {"one": NET, "other": NET, "demands": []}, (tuple, [str, (list, [])])),
    ("turns", "turn_order", {"one": OPEN_NET, "other": NEEDED_NET, "demands": []}, (tuple, [str, (list, [str])])),
    ("turns", "turn_order",
     {"one": OPEN_NET, "other": NEEDED_NET, "demands": [("all", "a", "in", ["111"], ("a", "out", []), None)]},
     (tuple, [str, (list, [(tuple, [(list, []), str, int, str])])])),
]


class Interface(unittest.TestCase):
    def test_names_and_arguments(self):
        for module, functions in ARGUMENTS.items():
            for name, wanted in functions.items():
                parameters = inspect.signature(getattr(importlib.import_module(module), name)).parameters
                self.assertEqual(list(parameters), wanted, name)
                for parameter in parameters.values():
                    default = DEFAULTS.get((name, parameter.name), inspect.Parameter.empty)
                    self.assertIs(parameter.default, default, name)

    def test_kinds(self):
        for module, name, given, wanted in KINDS:
            told = getattr(importlib.import_module("throng." + module), name)(**given)
            if wanted is None:
                self.assertIsNone(told, name)
            elif isinstance(wanted, list):
                self.assertEqual(deep_kinds(told), (list, wanted * len(told)), name)
                self.assertEqual(told == [], wanted == [], name)
            elif isinstance(wanted, tuple):
                self.assertEqual(deep_kinds(told), wanted, name)
            else:
                self.assertIs(type(told), wanted, name)

    def test_kind_of_a_graph(self):
        graph = importlib.import_module("throng.graphs").graph_of(heap=["0-1"])
        node = (tuple, [int, int, int])
        self.assertEqual(deep_kinds(graph), (tuple, [int, (list, [node, node])]))

    def check_methods(self, thing, methods):
        for name, wanted in methods.items():
            parameters = inspect.signature(getattr(thing, name)).parameters
            self.assertEqual(list(parameters), wanted, name)
            for parameter in parameters.values():
                self.assertIs(parameter.default, inspect.Parameter.empty, name)

    def test_methods(self):
        self.check_methods(importlib.import_module("throng.ways").Tree(), TREE_METHODS)
        self.check_methods(importlib.import_module("throng.keeps").Keeper(NET), KEEPER_METHODS)

    def test_kinds_told_by_the_tree(self):
        tree = importlib.import_module("throng.ways").Tree()
        self.assertIsNone(tree.put_way(beginning="01", door="out"))
        self.assertIs(type(tree.way_at(signs="01")), str)
        self.assertIsNone(tree.way_at(signs=""))
        self.assertEqual(deep_kinds(tree.told_ways()), (list, [(tuple, [str, str])]))
        self.assertEqual(deep_kinds(tree.ways_below(signs="0")), (list, [(tuple, [str, str])]))
        self.assertEqual(deep_kinds(tree.ways_below(signs="1")), (list, []))
        self.assertIsNone(tree.strike_way(beginning="01"))

    def test_kinds_told_by_the_keeper(self):
        keeper = importlib.import_module("throng.keeps").Keeper(net=NET)
        self.assertEqual(deep_kinds(keeper.net_now()), NET_KIND)
        self.assertIsNone(keeper.untie(house="a", door="out"))
        self.assertEqual(deep_kinds(keeper.told(house="a", door="out")), (list, ENDS_KIND))
        self.assertEqual(deep_kinds(keeper.picture(house="a", door="out")),
                         (list, [(tuple, [(tuple, [str, str, str, int]), (tuple, [int, (list, [])])])]))
        self.assertIsNone(keeper.put_rule(house="a", door="out", number=0, rule=("---", "pass", "---")))
        self.assertIsNone(keeper.strike_rule(house="a", door="out", number=0))
        self.assertIsNone(keeper.put_way(house="a", beginning="", door="in"))
        self.assertIsNone(keeper.strike_way(house="a", beginning=""))
        self.assertIsNone(keeper.tie(one=("a", "out"), other=("b", "out")))
        self.assertEqual(keeper.net_now(), NET)
