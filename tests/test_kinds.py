"""Point 39: the kinds of a net, held against the ends of each letter at each open spot."""

import random
import unittest

from tests.sets import PASS, PLACES, TO, all_letters, counting, deep_kinds, drawn_net, graph_at, lines_round, narrow
from tests.sets import open_of, passing, plain_walk, ring_of, some_letters, some_net, spread, width_of
from throng.graphs import graph_has, graph_least
from throng.kinds import net_kinds


def shape(end):
    return end[:3] if end[0] == "out" else end


def plain_kinds(net, places):
    """The kinds by the walks of letters that have each choice at these places."""
    choices = {}
    for letter in some_letters(random.Random(39), places, width_of(net)):
        ends = tuple(shape(plain_walk(net, *spot, letter)[1]) for spot in open_of(net))
        choices.setdefault(ends, []).append(narrow(letter, places))
    return [graph_at(some, places) for some in sorted(choices.values(), key=min)]


class Kinds(unittest.TestCase):
    def check(self, net, places):
        told = net_kinds(net)
        self.assertEqual(told, plain_kinds(net, places), net)
        self.assertEqual(deep_kinds(told),
                         (list, [(tuple, [int, (list, [(tuple, [int] * 3)] * len(nodes))]) for root, nodes in told]))
        least = [graph_least(graph, width_of(net)) for graph in told]
        self.assertEqual(least, sorted(set(least)))
        return len(told)


class SomeNets(Kinds):
    def test_small_nets(self):
        counts = []
        for width in range(1, 7):
            chance = random.Random(width)
            for number in range(160):
                counts.append(self.check(*drawn_net(chance, width, None, chance.choice([1, 3, 5]))))
        self.assertGreater(counts.count(1), 20)
        self.assertGreater(len([count for count in counts if count > 5]), 50)

    def test_letters_one_by_one(self):
        """Each letter lies in one graph, two of them in the same one where they have the same ends."""
        chance = random.Random(39)
        for number in range(40):
            net, places = drawn_net(chance, 4)
            told = net_kinds(net)
            ends = {}
            for letter in all_letters(4):
                found = [kind for kind, graph in enumerate(told) if graph_has(graph, letter)]
                self.assertEqual(len(found), 1)
                ends[letter] = (found, [shape(plain_walk(net, *spot, letter)[1]) for spot in open_of(net)])
            for one in ends.values():
                for other in ends.values():
                    self.assertEqual(one[0] == other[0], one[1] == other[1])

    def test_wide_nets(self):
        chance = random.Random(48)
        for width in (7, 13, 30, 47, 48):
            for count in (2, 4, 6, 8, 8):
                self.check(*drawn_net(chance, width, count, 5))

    def test_twelve_places(self):
        chance = random.Random(12)
        layout = [("a", 20), ("to", 20), ("b", 8)]
        places = [0, 2, 11, 18, 19, 20, 21, 22, 23, 31, 46, 47]
        net = (layout, [], [])
        while len(open_of(net)) not in (2, 3) or len(net[2]) < 2:
            net = some_net(chance, layout, places, 4)
        self.check(net, places)


class ByHand(Kinds):
    def test_no_open_spot(self):
        for net in ((TO, [], []), (TO, [("a", ([], []))], []), ring_of(["a"]), ring_of(["b", "a"]), counting(3, 2)):
            self.assertEqual(open_of(net), [])
            self.assertEqual(net_kinds(net), [(1, [])])

    def test_no_rules_no_ways(self):
        for house in (([("in", [])], []), ([("in", list(PASS))], []), ([("in", []), ("out", [])], [("", "out")])):
            self.assertEqual(net_kinds((TO, [("a", house)], [])), [(1, [])])

    def test_one_spot(self):
        rules = [("11", "drop", "--"), ("1-", "pass", "0-"), ("-1", "drop", "--")]
        net = (TO, [("a", ([("in", rules)], [("0", "in")]))], [])
        # The ends are: dropped by number 3, by number 2, out, dropped by number 0.
        self.assertEqual(net_kinds(net), [graph_at([letter], [0, 1]) for letter in ("00", "01", "10", "11")])
        self.check(net, range(2))

    def test_same_kind_though_written_otherwise(self):
        """What letters look like when they come out doesn't part them, by which door they do does."""
        rules = [("0-", "pass", "1-"), ("-1", "pass", "0-"), ("--", "pass", "--")]
        house = ([("in", rules), ("out", [])], [("", "out")])
        self.assertEqual(net_kinds((TO, [("a", house)], [])), [(1, [])])
        house = ([("in", rules), ("out", [])], [("0", "out"), ("1", "in")])
        self.assertEqual(net_kinds((TO, [("a", house)], [])), [(2, [(1, 1, 0)]), (2, [(1, 0, 1)])])

    def test_each_spot_parts(self):
        """Two spots that part letters at one place each make four kinds."""
        one = ([("in", [("0-", "drop", "--")] + PASS)], [("", "in")])
        other = ([("in", [("-0", "drop", "--")] + PASS)], [("", "in")])
        net = (TO, [("a", one), ("b", other)], [])
        self.assertEqual(net_kinds(net), [graph_at([letter], [0, 1]) for letter in all_letters(2)])
        self.assertEqual(net_kinds((TO, [("a", one), ("b", one)], [])), [(2, [(0, 1, 0)]), (2, [(0, 0, 1)])])

    def test_rings_part_by_their_name(self):
        lay = ([("in", list(PASS)), ("x", []), ("y", [])], [("0", "x"), ("1", "y")])
        turn = ([("side", list(PASS)), ("in", list(PASS)), ("out", [])], [("", "out")])
        net = (TO, [("lay", lay), ("b", turn), ("a", turn)],
               [(("lay", "x"), ("b", "side")), (("lay", "y"), ("a", "side")), (("b", "out"), ("b", "in")),
                (("a", "out"), ("a", "in"))])
        self.assertEqual(net_kinds(net), [(2, [(1, 1, 0)]), (2, [(1, 0, 1)])])
        both = (TO, net[1], net[2][:2] + [(("b", "out"), ("a", "in")), (("a", "out"), ("b", "in"))])
        self.assertEqual(net_kinds(both), [(1, [])])

    def test_letters_at_tied_spots_don_t_count(self):
        house = ([("in", list(PASS)), ("out", [("0-", "drop", "--")] + PASS)], [("", "out")])
        net = (TO, [("a", house), ("b", passing("out"))], [(("a", "out"), ("b", "in"))])
        self.assertEqual(net_kinds(net), [(1, [])])
        self.assertEqual(len(net_kinds(net[:2] + ([],))), 2)

    def test_sorted_by_the_least_letters(self):
        """Not by size, not by the graphs themselves, and not by the ends."""
        rules = [("1-1", "drop", "---"), ("00-", "pass", "---"), ("-1-", "drop", "---")]
        net = ([("a", 2), ("to", 1)], [("z", ([("in", rules), ("out", [])], [("1", "in"), ("0", "out")]))], [])
        self.check(net, range(3))
        self.assertEqual([graph_least(graph, 3) for graph in net_kinds(net)], ["000", "001", "010", "100", "101"])

    def test_a_kind_for_each_letter_of_eight_places(self):
        bare = "-" * 48
        rules = [(row, "drop", bare) for row in spread(all_letters(8), PLACES[:8], 48)]
        names = ["ha", "hb"]
        net = ([("to", 48)], [(name, ([("in", rules), ("out", [])], [("", "out")])) for name in names],
               lines_round(names)[:-1])
        self.assertEqual(net_kinds(net), [graph_at([choice], PLACES[:8]) for choice in all_letters(8)])
