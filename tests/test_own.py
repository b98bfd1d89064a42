"""Point 2: what is handed in stays as it was, and what is told is the asker's own."""

import copy
import unittest

from tests.sets import deep_kinds, open_of
from throng.asks import can_come
from throng.backs import net_back, net_picture
from throng.blends import graph_blend, graph_other, graph_under
from throng.classes import net_classes
from throng.demands import demand_broken
from throng.errors import ThrongError
from throng.fields import field_part, field_row, field_span, layout_width
from throng.graphs import graph_has, graph_least, graph_of, graph_rows, graph_size
from throng.heaps import heap_apart, heap_has, heap_less, heap_meet, heap_missing, heap_parted, heap_size
from throng.houses import house_back, house_does, house_shares
from throng.keeps import Keeper
from throng.kinds import net_kinds
from throng.nets import net_checked, net_house, net_open, net_spots, net_tied
from throng.rows import row_less
from throng.rules import rule_deed, rule_first, rule_needed, rule_shares, rules_thinned
from throng.thins import net_thinned, rule_parts
from throng.turns import net_mixed, turn_order
from throng.twins import net_parted
from throng.walks import net_fared, net_walk
from throng.ways import Tree, way_found, way_rows, ways_thinned

HEAPS = [
    [], ["-"], ["0"], ["0", "1"], ["---"], ["01-"], ["1--", "01-", "1--"], ["11-", "0-1", "---"],
    ["0" + "-" * 47, "-" * 47 + "1"], ["111", "000", "010"],
]
LAYOUTS = [[("to", 3)], [("a", 1), ("to", 2)], [("to", 1), ("b", 1), ("c", 1)]]
PARTS = [[], [("to", "---")], [("to", "01")], [("to", "0"), ("c", "-")], [("to", "1"), ("to", "1")], [("no", "0")]]
RULES = [
    [], [("---", "pass", "---")], [("0--", "drop", "1--"), ("-1-", "pass", "--0"), ("0-1", "pass", "---")],
    [("01-", "pass", "---"), ("01-", "pass", "---"), ("---", "pass", "0--")], [("1--", "drop", "---")],
]
WAYS = [
    [], [("", "a")], [("0", "a"), ("1", "b")], [("01", "b"), ("", "a"), ("0", "a")],
    [("110", "c"), ("111", "c"), ("11", "b"), ("", "c")],
]
HOUSE_LISTS = [
    ([], []), ([("in", []), ("out", [("---", "pass", "---")])], [("", "in")]),
    ([("in", RULES[2]), ("out", RULES[3])], [("0", "out"), ("", "in")]),
    ([("out", [("---", "pass", "--1")]), ("in", [("0--", "pass", "1--"), ("---", "pass", "---")])], [("", "out")]),
]
LINES = [
    [], [(("b", "out"), ("c", "in"))], [(("d", "out"), ("d", "in")), (("b", "in"), ("c", "out"))],
    [(("b", "none"), ("c", "in"))], [(("b", "in"), ("b", "in"))],
    [(("d", "out"), ("b", "in")), (("b", "out"), ("d", "in"))],
]
OF_ONE = [heap_apart, heap_size, graph_of]
OF_TWO = [heap_meet, heap_less, heap_missing, heap_parted]


def pairs():
    for one in HEAPS:
        for other in HEAPS:
            if not one or not other or len(one[0]) == len(other[0]):
                yield one, other


def later_calls():
    """As calls, for blends, fields, rules and ways."""
    for one, other in pairs():
        for word in ("join", "common", "less", "either"):
            yield graph_blend, [graph_of(one), graph_of(other), word]
    for heap in HEAPS:
        yield graph_other, [graph_of(heap)]
        width = len(heap[0]) if heap else 3
        for over in ("-" * width, "1" * width, "-" * (width - 1) + "0"):
            yield graph_under, [graph_of(heap), over]
    for layout in LAYOUTS:
        yield layout_width, [list(layout)]
        for name in ("to", "no"):
            yield field_span, [list(layout), name]
            yield field_part, [list(layout), name, "0-1"]
        for parts in PARTS:
            yield field_row, [list(layout), list(parts)]
    for rules in RULES:
        yield rule_first, [list(rules), "010"]
        yield rule_deed, [list(rules), "010"]
        for row in ("---", "0--", "011"):
            yield rule_shares, [list(rules), row]
        for number in range(-1, len(rules) + 1):
            yield rule_needed, [list(rules), number, 3]
        yield rules_thinned, [list(rules), 3]
    for ways in WAYS:
        yield way_found, [list(ways), "110"]
        yield way_rows, [list(ways), 3]
        yield ways_thinned, [list(ways), 3]


def all_nets():
    """Nets that hold no list in common; those with faults in their lines too."""
    for layout in LAYOUTS:
        for lines in LINES:
            yield copy.deepcopy((layout, list(zip("abcd", HOUSE_LISTS)), lines))


def net_calls():
    """As calls, for houses, nets, walks and classes."""
    for layout in LAYOUTS:
        for house in HOUSE_LISTS:
            for door in ("in", "out"):
                given = [layout, house, door]
                yield house_does, copy.deepcopy(given) + ["010"]
                yield house_shares, copy.deepcopy(given) + ["0--"]
                for out in ("in", "out", "none"):
                    yield house_back, copy.deepcopy(given) + [out, graph_of(["01-", "1-0"])]
    for net in all_nets():
        yield net_checked, [copy.deepcopy(net)]
        if told_by(net_checked, [net]) is True:
            yield net_spots, [copy.deepcopy(net)]
            yield net_open, [copy.deepcopy(net)]
            for name in ("a", "b", "c", "d", "e"):
                yield net_house, [copy.deepcopy(net), name]
                yield net_tied, [copy.deepcopy(net), name, "in"]
                for letter in ("000", "101", "10"):
                    yield net_walk, [copy.deepcopy(net), name, "in", letter]
                    yield net_fared, [copy.deepcopy(net), name, "in", letter]
                for heap in ([], ["---"], ["1--", "01-", "1--"]):
                    yield net_classes, [copy.deepcopy(net), name, "out", list(heap)]


def good_nets():
    return [net for net in all_nets() if told_by(net_checked, [net]) is True]


def all_letter_calls():
    """As calls, for backs, asks and twins."""
    for net in good_nets():
        for name in ("b", "d", "e"):
            for door in ("in", "out"):
                yield net_picture, [copy.deepcopy(net), name, door]
                for heap in ([], ["---"], ["1--", "01-", "1--"]):
                    yield net_back, [copy.deepcopy(net), name, door, graph_of(heap)]
                    for goal in (("c", "out", []), ("d", "out", ["--1", "0--"])):
                        yield can_come, [copy.deepcopy(net), name, door, list(heap), copy.deepcopy(goal)]
                        yield can_come, [copy.deepcopy(net), name, door, list(heap), copy.deepcopy(goal), "b"]
    for one in good_nets()[:4]:
        for other in good_nets():
            yield net_parted, [copy.deepcopy(one), copy.deepcopy(other)]


DEMANDS = [
    ("all", "b", "in", ["---"], ("c", "out", ["--1", "0--"]), None), ("none", "d", "in", [], ("d", "in", ["---"]), "b"),
    ("past", "c", "in", ["1--", "01-"], ("c", "out", ["---"]), "c"), ("calm", "d", "in", ["---", "0--"], None, None),
    ("calm", "e", "in", ["---"], None, None), ("never", "b", "in", ["---"], ("c", "out", ["---"]), None),
]


def changed_nets(net):
    """The net, and two that it can be changed into."""
    yield net
    houses = [(name, (house[0][:1] + [(door, rules + RULES[2]) for door, rules in house[0][1:]], house[1]))
              for name, house in net[1]]
    yield (net[0], houses, net[2])
    yield (net[0], [(name, (house[0], [])) for name, house in net[1]], net[2])


def last_calls():
    """As calls, for thins, kinds, demands and turns."""
    for net in good_nets():
        yield net_thinned, [copy.deepcopy(net)]
        yield net_kinds, [copy.deepcopy(net)]
        for name in ("b", "c", "d", "e"):
            for number in (-1, 0, 1, 9):
                yield rule_parts, [copy.deepcopy(net), name, "in", number]
                yield rule_parts, [copy.deepcopy(net), name, "out", number]
        for demand in DEMANDS:
            yield demand_broken, [copy.deepcopy(net), copy.deepcopy(demand)]
        for other in changed_nets(net):
            for names in ([], ["b"], ["d", "a", "d"], ["a", "b", "c", "d"], ["e"]):
                yield net_mixed, [copy.deepcopy(net), copy.deepcopy(other), list(names)]
            for demands in ([], DEMANDS[:1], DEMANDS[1:3], DEMANDS[3:4], DEMANDS[:4]):
                yield turn_order, [copy.deepcopy(net), copy.deepcopy(other), copy.deepcopy(demands)]
    for other in good_nets():
        yield net_mixed, [copy.deepcopy(good_nets()[0]), other, ["b"]]


def told_by(function, given):
    """What is told, or the class of what is refused."""
    try:
        return function(*given)
    except ThrongError as error:
        return type(error).__name__


def calls():
    """Every function that takes a list, with arguments of its own each time."""
    yield from later_calls()
    yield from net_calls()
    yield from all_letter_calls()
    yield from last_calls()
    for heap in HEAPS:
        for function in OF_ONE:
            yield function, [list(heap)]
        letter = "0" * (len(heap[0]) if heap else 3)
        yield heap_has, [list(heap), letter]
        yield graph_has, [graph_of(heap), letter]
        for function in (graph_size, graph_rows, graph_least):
            yield function, [graph_of(heap), len(letter)]
    for one, other in pairs():
        for function in OF_TWO:
            yield function, [list(one), list(other)]


def spoil(thing):
    """Changes all lists in a thing."""
    if type(thing) in (list, tuple):
        for part in thing:
            spoil(part)
    if type(thing) is list:
        thing.reverse()
        thing.append("spoiled")
        thing.insert(0, "spoiled")


class Own(unittest.TestCase):
    def test_what_is_handed_in_stays(self):
        for function, given in calls():
            before = copy.deepcopy(given)
            told_by(function, given)
            self.assertEqual(given, before, function)
            self.assertEqual(deep_kinds(given), deep_kinds(before), function)

    def test_what_was_told_stays_when_what_was_handed_in_changes(self):
        for function, given in calls():
            told = told_by(function, given)
            before = copy.deepcopy(told)
            spoil(given)
            self.assertEqual(told, before, function)

    def test_what_was_told_can_be_changed(self):
        for function, given in calls():
            before = copy.deepcopy(given)
            told = told_by(function, given)
            first = copy.deepcopy(told)
            spoil(told)
            self.assertEqual(given, before, function)
            self.assertEqual(told_by(function, given), first, function)

    def test_two_answers_have_no_list_in_common(self):
        for function, given in calls():
            one = told_by(function, given)
            other = told_by(function, given)
            before = copy.deepcopy(other)
            spoil(one)
            self.assertEqual(other, before, function)

    def test_same_heap_as_both(self):
        for heap in HEAPS:
            given = list(heap)
            self.assertEqual(heap_size(heap_meet(given, given)), heap_size(given))
            self.assertEqual(heap_less(given, given), [])
            self.assertIsNone(heap_missing(given, given))
            self.assertIsNone(heap_parted(given, given))
            self.assertEqual(given, heap)

    def test_house_told_is_own(self):
        net = next(all_nets())
        for name, house in net[1]:
            before = copy.deepcopy(net)
            told = net_house(net, name)
            self.assertEqual(told, house)
            spoil(told)
            self.assertEqual(net, before)

    def test_rows_less_are_own(self):
        for one, other in (("0", "1"), ("-", "1"), ("1", "1"), ("---", "010")):
            first = row_less(one, other)
            before = list(first)
            second = row_less(one, other)
            spoil(first)
            self.assertEqual(second, before)
            self.assertEqual(row_less(one, other), before)

    def test_graph_of_the_ends_is_own(self):
        for heap in ([], ["-"]):
            graph = graph_of(heap)
            graph[1].append((0, 0, 1))
            self.assertEqual(graph_of(heap)[1], [])

    def test_ways_told_by_a_tree_are_own(self):
        for ways in WAYS:
            tree = Tree()
            for beginning, door in ways:
                tree.put_way(beginning, door)
            for told in (tree.told_ways, lambda: tree.ways_below(""), lambda: tree.ways_below("1")):
                first = told()
                before = list(first)
                second = told()
                spoil(first)
                self.assertEqual(second, before)
                self.assertEqual(told(), before)
            self.assertEqual([tree.way_at(signs) for signs in ("", "0", "110")],
                             [way_found(ways, signs) for signs in ("", "0", "110")])

    def test_what_a_tree_told_stays_when_the_tree_changes(self):
        tree = Tree()
        tree.put_way("0", "a")
        tree.put_way("01", "b")
        told = [tree.told_ways(), tree.ways_below("0"), tree.ways_below("1")]
        before = copy.deepcopy(told)
        tree.strike_way("0")
        tree.put_way("1", "c")
        self.assertEqual(told, before)
        self.assertEqual(tree.told_ways(), [("01", "b"), ("1", "c")])


class OwnOfAKeeper(unittest.TestCase):
    """A keeper's net is its own, and so is all that it tells."""

    deeds = [("put_rule", ["b", "in", 0, ("0--", "drop", "---")]),
             ("put_rule", ["c", "out", 1, ("1--", "pass", "0-1")]), ("put_way", ["c", "1", "out"]),
             ("put_way", ["b", "0", "out"]), ("strike_rule", ["b", "out", 0]), ("strike_way", ["d", ""]),
             ("tie", [("c", "out"), ("d", "in")]), ("untie", ["b", "in"]), ("put_way", ["d", "1", "out"]),
             ("untie", ["c", "out"]), ("strike_rule", ["b", "in", 7])]

    def answers(self, keeper):
        net = keeper.net_now()
        told = [(keeper.told(*spot), keeper.picture(*spot)) for spot in open_of(net)]
        return [net, told]

    def test_what_is_handed_in_stays(self):
        for net in all_nets():
            before = copy.deepcopy(net)
            keeper = told_by(Keeper, [net])
            self.assertEqual(net, before)
            if isinstance(keeper, Keeper):
                for deed, given in self.deeds:
                    handed = copy.deepcopy(given)
                    told_by(getattr(keeper, deed), handed)
                    self.answers(keeper)
                    self.assertEqual((handed, net), (given, before))

    def test_answers_stay_when_what_was_handed_in_changes(self):
        for net in good_nets():
            keeper, other = Keeper(net), Keeper(copy.deepcopy(net))
            spoil(net)
            self.assertEqual(self.answers(keeper), self.answers(other))
            for deed, given in self.deeds:
                handed = copy.deepcopy(given)
                self.assertEqual(told_by(getattr(keeper, deed), handed), told_by(getattr(other, deed), given))
                spoil(handed)
                self.assertEqual(self.answers(keeper), self.answers(other))

    def test_answers_stay_when_what_was_told_changes(self):
        for net in good_nets():
            keeper, other = Keeper(net), Keeper(net)
            for deed, given in self.deeds:
                wanted = self.answers(other)
                for again in range(2):
                    told = self.answers(keeper)
                    self.assertEqual(told, wanted)
                    spoil(told)
                told_by(getattr(keeper, deed), given)
                told_by(getattr(other, deed), given)

    def test_what_was_told_stays_when_deeds_are_done(self):
        for net in good_nets():
            keeper = Keeper(net)
            all_told = []
            for deed, given in self.deeds:
                told = self.answers(keeper)
                all_told.append((told, copy.deepcopy(told)))
                told_by(getattr(keeper, deed), given)
            for told, before in all_told:
                self.assertEqual(told, before)
