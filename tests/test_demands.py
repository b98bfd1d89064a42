"""Point 40: demands, held against the walks of each letter of their heaps."""

import random
import unittest

from tests.sets import OTHER_THINGS, PASS, TO, check_refused, counting, drawn_net, fares_against, is_broken, lies_in
from tests.sets import lines_round, open_of, passing, ring_of, some_demand, some_letters, some_net, spread, width_of
from tests.sets import with_rules, with_ways
from throng.demands import demand_broken

WORDS = ["all", "none", "past", "calm"]


class Demands(unittest.TestCase):
    def check(self, net, demand, places):
        """The net and the demand tell none but these places; told is whether the demand is kept."""
        told = demand_broken(net, demand)
        if not is_broken(net, demand, some_letters(random.Random(40), places, width_of(net))):
            self.assertIsNone(told, (net, demand))
            return True
        self.assertIs(type(told), str, (net, demand))
        self.assertEqual((len(told), set(told) - set("01")), (width_of(net), set()))
        self.assertTrue(any(lies_in(told, row) for row in demand[3]), (net, demand))
        self.assertTrue(fares_against(net, demand, told), (net, demand))
        return False


class SomeNets(Demands):
    def test_small_nets(self):
        kept = {word: [] for word in WORDS}
        for width in range(1, 7):
            chance = random.Random(width)
            for number in range(140):
                net, places = drawn_net(chance, width)
                for word in WORDS * 2:
                    kept[word].append(self.check(net, some_demand(chance, net, places, word), places))
        for word in WORDS:
            self.assertGreater(kept[word].count(True), 50, word)
            self.assertGreater(kept[word].count(False), 50, word)

    def test_wide_nets(self):
        chance = random.Random(48)
        kept = []
        for width in (7, 13, 30, 47, 48):
            for count in (2, 4, 6, 8):
                net, places = drawn_net(chance, width, count)
                kept.extend(self.check(net, some_demand(chance, net, places, word), places) for word in WORDS * 2)
        self.assertGreater(kept.count(True), 30)
        self.assertGreater(kept.count(False), 30)

    def test_twelve_places(self):
        chance = random.Random(12)
        layout = [("a", 20), ("to", 20), ("b", 8)]
        places = [0, 2, 11, 18, 19, 20, 21, 22, 23, 31, 46, 47]
        net = (layout, [], [])
        while len(open_of(net)) not in (2, 3) or len(net[2]) < 2:
            net = some_net(chance, layout, places, 4)
        for word in WORDS * 2:
            self.check(net, some_demand(chance, net, places, word), places)


class ByHand(Demands):
    # From a letters go to b, and from there out: by x where they have 0 behind, else by y.
    net = (TO, [("a", passing("out")),
                ("b", ([("in", [("11", "drop", "--"), ("01", "pass", "1-")] + PASS), ("x", list(PASS)), ("y", [])],
                       [("0", "x"), ("1", "y")]))], [(("a", "out"), ("b", "in"))])

    def broken(self, word, heap, goal, beside=None, spot=("a", "in"), net=None):
        net = self.net if net is None else net
        self.check(net, (word,) + spot + (heap, goal, beside), range(2))
        return demand_broken(net, (word,) + spot + (heap, goal, beside))

    def test_all(self):
        goal = ("b", "x", ["--"])
        self.assertIsNone(self.broken("all", ["-0"], goal))
        self.assertIsNone(self.broken("all", ["00", "10"], ("b", "x", ["0-", "1-"])))
        self.assertEqual(self.broken("all", ["-0"], ("b", "x", ["0-"])), "10")
        self.assertEqual(self.broken("all", ["-0", "01"], goal), "01")
        self.assertEqual(self.broken("all", ["11"], ("b", "y", ["--"])), "11")
        self.assertIsNone(self.broken("all", ["01"], ("b", "y", ["11"])))
        self.assertEqual(self.broken("all", ["01"], ("b", "y", ["01"])), "01")

    def test_none(self):
        self.assertIsNone(self.broken("none", ["-1"], ("b", "x", ["--"])))
        self.assertEqual(self.broken("none", ["-1", "10"], ("b", "x", ["--"])), "10")
        self.assertIsNone(self.broken("none", ["--"], ("b", "y", ["01", "10", "00"])))
        self.assertEqual(self.broken("none", ["--"], ("b", "y", ["11"])), "01")
        self.assertIsNone(self.broken("none", ["--"], ("a", "in", ["--"])))

    def test_past(self):
        goal = ("b", "x", ["--"])
        self.assertIsNone(self.broken("past", ["--"], goal, "a"))
        self.assertIsNone(self.broken("past", ["--"], goal, "b"))
        aside = (TO, self.net[1] + [("c", passing("out"))], self.net[2])
        self.assertIn(self.broken("past", ["--"], goal, "c", net=aside), ("00", "10"))
        self.assertIsNone(self.broken("past", ["-1"], goal, "c", net=aside))
        self.assertIsNone(self.broken("past", ["--"], ("b", "x", []), "c", net=aside))

    def test_beside_is_the_first_house(self):
        """A letter is laid in at a house, and so comes to it; by another spot it may pass it by."""
        goal = ("b", "x", ["--"])
        self.assertIsNone(self.broken("past", ["--"], goal, "a", ("a", "in")))
        self.assertIsNone(self.broken("past", ["--"], goal, "b", ("b", "in")))
        self.assertIn(self.broken("past", ["--"], goal, "a", ("b", "in")), ("00", "10"))

    def test_beside_on_some_ways(self):
        """Letters go to the goal by either of two houses."""
        fork = ([("in", list(PASS)), ("x", []), ("y", [])], [("0", "x"), ("1", "y")])
        last = ([("in", list(PASS)), ("side", list(PASS)), ("out", [])], [("", "out")])
        net = (TO, [("fork", fork), ("one", passing("out")), ("two", passing("out")), ("last", last)],
               [(("fork", "x"), ("one", "in")), (("fork", "y"), ("two", "in")), (("one", "out"), ("last", "in")),
                (("two", "out"), ("last", "side"))])
        goal = ("last", "out", ["--"])
        for beside, against in (("one", "1"), ("two", "0"), ("fork", ""), ("last", "")):
            for heap in (["-0"], ["-1"], ["--"], ["0-", "11"], []):
                told = self.broken("past", heap, goal, beside, ("fork", "in"), net)
                signs = [sign for sign in against if any(row[1] in (sign, "-") for row in heap)]
                self.assertEqual([] if told is None else [told[1]], signs)
                self.assertIsNone(self.broken("all", heap, goal, None, ("fork", "in"), net))

    def test_calm(self):
        lay = ([("in", list(PASS)), ("out", [])], [("", "out")])
        turn = ([("side", list(PASS)), ("in", list(PASS)), ("out", []), ("way", [])], [("0", "way"), ("1", "out")])
        net = (TO, [("lay", lay), ("turn", turn)],
               [(("lay", "out"), ("turn", "side")), (("turn", "out"), ("turn", "in"))])
        self.assertIsNone(self.broken("calm", ["-0"], None, None, ("lay", "in"), net))
        self.assertEqual(self.broken("calm", ["-0", "11"], None, None, ("lay", "in"), net), "11")
        self.assertEqual(self.broken("calm", ["01"], None, None, ("turn", "in"), net), "01")
        self.assertIsNone(self.broken("calm", ["--"], None, None, ("lay", "in"), with_rules(net, ("turn", "in"), [])))
        self.assertIsNone(self.broken("calm", ["--"], None, None, ("lay", "in"), with_ways(net, "turn", [])))
        for names in (["a"], ["b", "a", "c"]):
            self.assertIsNotNone(self.broken("calm", ["--"], None, None, (names[0], "in"), ring_of(names)))
        bare = "-" * 4
        self.assertIsNotNone(demand_broken(counting(3, 2), ("calm", "hb", "in", [bare], None, None)))
        self.assertIsNone(demand_broken(counting(3, 2), ("calm", "hb", "out", [bare], None, None)))

    def test_no_rows(self):
        goals = [("b", "x", ["--"]), ("b", "x", []), ("a", "in", ["--"])]
        for goal in goals:
            for word in WORDS:
                self.assertIsNone(self.broken(word, [], goal, "b"))
        for word, told in (("all", "01"), ("none", None), ("past", None)):
            self.assertEqual(self.broken(word, ["01"], ("b", "x", []), "a"), told)
            self.assertEqual(self.broken(word, ["01"], ("b", "y", []), "a", ("b", "in")), told)

    def test_goal_at_the_first_spot(self):
        """Letters come out where they are laid in only if they are sent out there."""
        net = (TO, [("a", ([("in", list(PASS)), ("out", [])], [("0", "in"), ("1", "out")]))], [])
        goal = ("a", "in", ["--"])
        self.assertIsNone(self.broken("all", ["-0"], goal, net=net))
        self.assertEqual(self.broken("all", ["0-"], goal, net=net), "01")
        self.assertEqual(self.broken("none", ["0-"], goal, net=net), "00")
        self.assertIsNone(self.broken("none", ["-1"], goal, net=net))
        self.assertIsNone(self.broken("past", ["--"], goal, "a", net=net))

    def test_goal_that_is_not_open(self):
        for word, told in (("all", "00"), ("none", None), ("past", None)):
            self.assertEqual(self.broken(word, ["00"], ("a", "out", ["--"]), "b"), told)
            self.assertEqual(self.broken(word, ["00"], ("b", "in", ["--"]), "b"), told)

    def test_laid_in_at_a_spot_that_is_not_open(self):
        self.assertIsNone(self.broken("all", ["-0"], ("b", "x", ["--"]), None, ("b", "in")))
        self.assertEqual(self.broken("all", ["-0"], ("b", "x", ["--"]), None, ("a", "out"), (TO, [
            ("a", ([("in", list(PASS)), ("out", [])], [("", "out")])), self.net[1][1]], self.net[2])), "00")

    def test_one_letter_breaks(self):
        bare = "-" * 48
        places = [0, 3, 4, 11, 12, 20, 23, 30, 31, 40, 46, 47]
        for choice in ("0" * 12, "1" * 12, "01" * 6):
            row = spread([choice], places, 48)[0]
            rules = [(row, "drop", bare), (bare, "pass", bare)]
            net = ([("to", 48)], [("a", ([("in", rules), ("out", [])], [("", "out")]))], [])
            told = demand_broken(net, ("all", "a", "in", [bare], ("a", "out", [bare]), None))
            self.assertEqual("".join(told[place] for place in places), choice)
            heap = [bare[:place] + ("1" if sign == "0" else "0") + bare[place + 1:]
                    for sign, place in zip(choice, places)]
            self.assertIsNone(demand_broken(net, ("all", "a", "in", heap, ("a", "out", [bare]), None)))
            told = demand_broken(net, ("none", "a", "in", [row, heap[7]], ("a", "out", [bare]), None))
            self.assertTrue(lies_in(told, heap[7]))

    def test_long_way(self):
        names = ["h" + sign for sign in "abcdefghij"]
        net = (TO, [(name, passing("out")) for name in names], lines_round(names)[:-1])
        goal = ("hj", "out", ["--"])
        for name in names:
            self.assertIsNone(self.broken("past", ["--"], goal, name, ("ha", "in"), net))
        self.assertIsNotNone(self.broken("past", ["--"], goal, "he", ("hf", "in"), net))


class NotLookedAt(unittest.TestCase):
    """What the word doesn't speak of changes nothing, and is not refused."""

    net = ByHand.net
    besides = [None, "a", "b", "c", ""]

    def test_beside(self):
        for word, heap, told in (("all", ["-0"], None), ("all", ["01"], "01"), ("none", ["-1"], None),
                                 ("none", ["00"], "00")):
            for beside in self.besides:
                demand = (word, "a", "in", heap, ("b", "x", ["--"]), beside)
                self.assertEqual(demand_broken(self.net, demand), told, demand)

    def test_goal_and_beside(self):
        ring = ring_of(["a", "b"])
        for goal in (None, ("b", "x", ["--"]), ("c", "x", []), ("a", "none", ["--"])):
            for beside in self.besides:
                self.assertIsNone(demand_broken(self.net, ("calm", "a", "in", ["--"], goal, beside)))
                self.assertEqual(demand_broken(ring, ("calm", "a", "in", ["01"], goal, beside)), "01")


class Refused(unittest.TestCase):
    net = ByHand.net
    goals = [("b", "x", ["--"]), ("c", "x", ["--"]), ("b", "out", ["--"])]

    def test_word(self):
        words = OTHER_THINGS + ["", "All", "ALL", "every", "all ", " none", "past\n", "cal", "calmer", "pass", "drop"]
        for word in words:
            for house in ("a", "c"):
                for goal in self.goals + [None]:
                    check_refused(self, "BadWord", demand_broken, self.net, (word, house, "in", ["--"], goal, "c"))

    def test_spot(self):
        for word in WORDS:
            for goal in self.goals:
                for heap in (["--"], []):
                    for house in ("c", "", "x"):
                        check_refused(self, "NoHouse", demand_broken, self.net, (word, house, "in", heap, goal, "c"))
                    for house, door in (("a", "x"), ("b", "out"), ("a", "")):
                        check_refused(self, "NoDoor", demand_broken, self.net, (word, house, door, heap, goal, "c"))

    def test_goal(self):
        for word in ("all", "none", "past"):
            for heap in (["--"], []):
                for rows in (["--"], []):
                    for goal, kind in ((("c", "x"), "NoHouse"), (("c", "none"), "NoHouse"), (("b", "out"), "NoDoor"),
                                       (("a", "x"), "NoDoor")):
                        for beside in ("a", "c"):
                            check_refused(self, kind, demand_broken, self.net,
                                          (word, "a", "in", heap, goal + (rows,), beside))

    def test_beside(self):
        for beside in ("c", "", "x", "in", "aa"):
            for heap in (["--"], []):
                check_refused(self, "NoHouse", demand_broken, self.net,
                              ("past", "a", "in", heap, ("b", "x", ["--"]), beside))
