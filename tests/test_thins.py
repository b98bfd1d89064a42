"""Points 37 and 38: needless rules and thinned nets, held against the walks of each letter."""

import random
import unittest

from tests.sets import PASS, PLACES, TO, all_letters, check_refused, counting, drawn_net, is_some_in_order, lines_round
from tests.sets import open_of, passing, plain_fare, plain_fares, ring_of, rules_of, some_letters, some_net, spots_of
from tests.sets import spread, width_of, with_rules, with_ways, without_rule
from throng.thins import net_thinned, rule_parts
from throng.twins import net_parted


class Thins(unittest.TestCase):
    def check_rule(self, net, spot, number, letters, fares):
        """Told is whether the rule is needless; letters have each choice at the told places, and fare so."""
        told = rule_parts(net, *spot, number)
        without = without_rule(net, spot, number)
        if plain_fares(without, letters) == fares:
            self.assertIsNone(told, (net, spot, number))
            return True
        self.assertIs(type(told), tuple)
        self.assertEqual([type(part) for part in told], [str, str, str])
        self.assertIn(told[:2], open_of(net))
        self.assertEqual((len(told[2]), set(told[2]) - set("01")), (width_of(net), set()))
        self.assertNotEqual(plain_fare(net, *told), plain_fare(without, *told))
        return False

    def check_rules(self, net, places):
        letters = some_letters(random.Random(37), places, width_of(net))
        fares = plain_fares(net, letters)
        return [self.check_rule(net, spot, number, letters, fares)
                for spot in spots_of(net) for number in range(len(rules_of(net, *spot)))]

    def check_thinned(self, net, places):
        """Told is how many rules were struck."""
        told = net_thinned(net)
        left = {spot: rules_of(told, *spot) for spot in spots_of(net)}
        for spot, rules in left.items():
            self.assertTrue(is_some_in_order(rules, rules_of(net, *spot)), (net, told))
        houses = [(name, ([(door, left[name, door]) for door, rules in house[0]], house[1])) for name, house in net[1]]
        self.assertEqual(told, (net[0], houses, net[2]))
        letters = some_letters(random.Random(38), places, width_of(net))
        fares = plain_fares(net, letters)
        self.assertEqual(plain_fares(told, letters), fares, net)
        for spot, rules in left.items():
            for number in range(len(rules)):
                self.assertNotEqual(plain_fares(without_rule(told, spot, number), letters), fares, (net, told))
        return sum(len(rules_of(net, *spot)) - len(rules) for spot, rules in left.items())


class SomeNets(Thins):
    def test_rules(self):
        needless = []
        for width in range(1, 7):
            chance = random.Random(width)
            for number in range(30 if width < 5 else 12):
                needless.extend(self.check_rules(*drawn_net(chance, width)))
        self.assertGreater(needless.count(True), 300)
        self.assertGreater(needless.count(False), 300)

    def test_rules_of_wide_nets(self):
        chance = random.Random(48)
        needless = []
        for width in (7, 13, 30, 47, 48):
            for count in (2, 4, 5, 6):
                needless.extend(self.check_rules(*drawn_net(chance, width, count)))
        self.assertGreater(needless.count(True), 30)
        self.assertGreater(needless.count(False), 30)

    def test_thinned(self):
        struck = []
        for width in range(1, 7):
            chance = random.Random(width + 10)
            for number in range(40 if width < 5 else 15):
                struck.append(self.check_thinned(*drawn_net(chance, width, None, chance.choice([1, 3, 5]))))
        self.assertIn(0, struck)
        self.assertGreater(sum(struck), 300)

    def test_thinned_wide_nets(self):
        chance = random.Random(38)
        struck = [self.check_thinned(*drawn_net(chance, width, count, 5))
                  for width in (7, 13, 30, 47, 48) for count in (2, 4, 5, 6)]
        self.assertGreater(sum(struck), 50)

    def test_many_rules(self):
        """Nets whose doors have up to forty rules, most of them needless."""
        for seed in range(6):
            chance = random.Random(seed)
            net, places = drawn_net(chance, 4)
            while len(net[1]) < 3 or len(open_of(net)) not in (1, 2):
                net, places = drawn_net(chance, 4)
            for spot in spots_of(net):
                rules = [rule for other in spots_of(net) for rule in rules_of(net, *other) * 3]
                chance.shuffle(rules)
                net = with_rules(net, spot, rules[:40])
            self.check_thinned(net, places)
            told = net_thinned(net)
            for spot in spots_of(net):
                for number in range(len(rules_of(told, *spot))):
                    self.assertIsNotNone(rule_parts(told, *spot, number))

    def test_twelve_places(self):
        chance = random.Random(12)
        layout = [("a", 20), ("to", 20), ("b", 8)]
        places = [0, 2, 11, 18, 19, 20, 21, 22, 23, 31, 46, 47]
        net = (layout, [], [])
        while len(open_of(net)) not in (2, 3) or len(net[2]) < 2:
            net = some_net(chance, layout, places, 4)
        letters = some_letters(chance, places, 48)
        fares = plain_fares(net, letters)
        told = net_thinned(net)
        self.assertEqual(plain_fares(told, letters), fares)
        for spot in spots_of(net):
            if rules_of(net, *spot):
                self.check_rule(net, spot, 0, letters, fares)
            for number in range(len(rules_of(told, *spot))):
                parted = rule_parts(told, *spot, number)
                self.assertNotEqual(plain_fare(told, *parted), plain_fare(without_rule(told, spot, number), *parted))


class ByHand(Thins):
    def check(self, net, left):
        """That just these rules are left, told for each spot that has rules by their numbers."""
        self.check_rules(net, range(2))
        self.check_thinned(net, range(2))
        wanted = {spot: [rules_of(net, *spot)[number] for number in left.get(spot, [])] for spot in spots_of(net)}
        told = net_thinned(net)
        self.assertEqual({spot: rules_of(told, *spot) for spot in spots_of(net)}, wanted)

    def test_needed_in_the_house_and_needless_in_the_net(self):
        """What the second house drops may be dropped by the first one, or passed on."""
        first = ([("in", [("1-", "drop", "--")] + PASS), ("out", [])], [("", "out")])
        second = ([("in", [("1-", "drop", "--")] + PASS), ("out", [])], [("", "out")])
        net = (TO, [("a", first), ("b", second)], [(("a", "out"), ("b", "in"))])
        self.assertIsNone(rule_parts(net, "a", "in", 0))
        self.assertIsNone(rule_parts(net, "b", "in", 0))
        self.assertEqual(rule_parts(net, "a", "in", 1)[0], "a")
        self.check_rules(net, range(2))
        self.check_thinned(net, range(2))
        told = net_thinned(net)
        self.assertEqual(len(rules_of(told, "a", "in")) + len(rules_of(told, "b", "in")), 3)

    def test_no_letter_comes_there(self):
        net = (TO, [("a", passing("out")), ("b", passing("out"))],
               [(("a", "out"), ("b", "out")), (("a", "in"), ("b", "in"))])
        self.check(net, {})
        net = (TO, [("a", passing("out")), ("b", passing("out"))], [(("a", "out"), ("b", "in"))])
        self.check(net, {("a", "in"): [0], ("b", "in"): [0], ("b", "out"): [0]})

    def test_written_anew_behind(self):
        """What is written on a letter counts only where it is not written over later on."""
        first = ([("in", [("0-", "pass", "0-"), ("11", "pass", "01")] + PASS), ("out", [])], [("", "out")])
        second = ([("in", [("--", "pass", "1-")]), ("out", [])], [("", "out")])
        net = (TO, [("a", first), ("b", second)], [(("a", "out"), ("b", "in"))])
        self.check(net, {("a", "in"): [2], ("b", "in"): [0]})
        self.check((TO, net[1], []), {("a", "in"): [1, 2], ("b", "in"): [0]})

    def test_dropped_or_lost(self):
        for ways, left in (([], []), ([("", "in")], [1]), ([("0", "in")], [1])):
            house = ([("in", [("1-", "drop", "--"), ("0-", "pass", "--")])], ways)
            self.check((TO, [("a", house)], []), {("a", "in"): left})

    def test_ring_or_lost(self):
        """A letter in a ring doesn't fare as one that is lost, but as one in any other ring."""
        lay = ([("in", list(PASS)), ("out", [])], [("", "out")])
        turn = ([("side", [("0-", "pass", "1-")] + PASS), ("in", [("0-", "pass", "1-")] + PASS), ("out", [])],
                [("", "out")])
        net = (TO, [("lay", lay), ("turn", turn)],
               [(("lay", "out"), ("turn", "side")), (("turn", "out"), ("turn", "in"))])
        self.check(net, {("lay", "in"): [0], ("turn", "side"): [1], ("turn", "in"): [1]})
        self.check(with_ways(net, "turn", [("0", "out")]),
                   {("lay", "in"): [0], ("turn", "side"): [1], ("turn", "in"): [1]})

    def test_a_rule_is_come_to_twice(self):
        """Without the rule that lets a letter out at the second time it would go round for ever."""
        turn = ([("in", [("00", "pass", "10"), ("10", "pass", "11")]), ("side", list(PASS)), ("out", [])],
                [("0", "side"), ("1", "out")])
        back = ([("in", list(PASS)), ("out", [])], [("", "in")])
        net = (TO, [("turn", turn), ("back", back)], [(("turn", "side"), ("back", "in"))])
        self.check_rules(net, range(2))
        self.check_thinned(net, range(2))
        net = (TO, net[1], [(("turn", "side"), ("turn", "in"))])
        self.check_rules(net, range(2))
        self.check_thinned(net, range(2))

    def test_struck_only_behind_another(self):
        """A rule that is needed at first and needless once one behind it is struck."""
        rules = [("0-", "pass", "1-"), ("0-", "drop", "--"), ("--", "pass", "1-")]
        house = ([("in", rules), ("out", [])], [("", "out")])
        self.check((TO, [("a", house)], []), {("a", "in"): [2]})
        self.assertIsNotNone(rule_parts((TO, [("a", house)], []), "a", "in", 0))

    def test_letters_parted_by_a_struck_rule(self):
        """Without the first rule its letters go by two others, as needful as before; then the next house is looked at."""
        first = ([("in", [("0-", "pass", "--"), ("-0", "pass", "-0"), ("-1", "pass", "-1")]), ("out", [])],
                 [("", "out")])
        second = ([("in", [("0-", "pass", "--")] + PASS), ("out", [])], [("", "out")])
        for one, other in (("a", "b"), ("b", "a")):
            net = (TO, [(one, first), (other, second)], [((one, "out"), (other, "in"))])
            self.check(net, {(one, "in"): [1, 2], (other, "in"): [1]})

    def test_needless_once_another_house_is_thinned(self):
        """Whichever house is looked at first, no rule is left that has become needless."""
        for one, other in (("a", "b"), ("b", "a")):
            first = ([("in", [("1-", "pass", "-1")] + PASS), ("x", []), ("y", [])], [("0", "x"), ("1", "y")])
            second = ([("in", [("1-", "drop", "--"), ("-1", "pass", "-0")] + PASS), ("side", [("1-", "drop", "--")]),
                       ("out", [])], [("", "out")])
            net = (TO, [(one, first), (other, second)], [((one, "x"), (other, "in")), ((one, "y"), (other, "side"))])
            self.check_rules(net, range(2))
            self.check_thinned(net, range(2))

    def test_alike_rules(self):
        for count in (1, 2, 5, 300):
            net = (TO, [("a", ([("in", PASS * count), ("out", [])], [("", "out")]))], [])
            for number in sorted({0, 1, count - 1} & set(range(count))):
                self.assertEqual(rule_parts(net, "a", "in", number) is None, count > 1)
            self.assertEqual(rules_of(net_thinned(net), "a", "in"), PASS)

    def test_no_rules_no_ways_no_lines_no_houses(self):
        for net in ((TO, [], []), (TO, [("a", ([], []))], []), (TO, [("a", ([("in", [])], []))], []),
                    (TO, [("a", ([("in", [])], [("", "in")]))], [])):
            self.assertEqual(net_thinned(net), net)
        net = (TO, [("a", ([("in", list(PASS))], []))], [])
        self.check(net, {})

    def test_no_open_spot(self):
        for names in (["a"], ["a", "b"], ["b", "c", "a"]):
            self.check(ring_of(names), {})

    def test_counting(self):
        net = counting(3, 2)
        self.assertEqual(net_thinned(net)[1][0][1][0], [("in", []), ("out", [])])
        lay = ([("in", [("-" * 4, "pass", "-" * 4)]), ("out", [])], [("", "out")])
        net = (net[0], net[1] + [("lay", lay)], net[2][:1] + [(("lay", "out"), ("ha", "in"))])
        self.check_rules(net, range(4))
        self.check_thinned(net, range(4))
        lines = lines_round(["ha", "hb"])[:1] + [(("hb", "out"), ("lay", "in")), (("lay", "out"), ("ha", "in"))]
        self.check_thinned((net[0], net[1], lines), range(4))

    def test_one_letter_needs_the_rule(self):
        bare = "-" * 48
        for choice in ("0" * 12, "1" * 12, "01" * 6):
            rule = (spread([choice], PLACES, 48)[0], "drop", bare)
            net = ([("to", 48)], [("a", ([("in", [rule, (bare, "pass", bare)]), ("out", [])], [("", "out")]))], [])
            told = rule_parts(net, "a", "in", 0)
            self.assertEqual((told[:2], "".join(told[2][place] for place in PLACES)), (("a", "in"), choice))
            self.assertEqual(net_thinned(net), net)
            self.assertEqual(net_thinned(with_rules(net, ("a", "in"), [rule] + rules_of(net, "a", "in"))), net)

    def test_hundreds_of_rules(self):
        """At three hundred rules each door, of twelve told places, just the needed ones are left."""
        bare = "-" * 48
        rows = spread(all_letters(8), PLACES[4:], 48)
        dropped = [(row, "drop", bare) for number, row in enumerate(rows) if number % 3]
        passed = (bare, "pass", bare)
        rules = dropped + [passed] + [(bare, "drop", bare)] * (299 - len(dropped))
        names = ["h" + sign for sign in "abcdefghij"]
        houses = [(name, ([("in", rules), ("out", rules)], [("", "out")])) for name in names]
        net = ([("to", 48)], houses, lines_round(names)[:-1])
        self.assertEqual(len(rules), 300)
        told = net_thinned(net)
        self.assertIsNone(net_parted(net, told))
        for name in names:
            self.assertEqual(rules_of(told, name, "in")[-1], passed)
        # What is to be dropped is dropped at just one of the ten doors.
        left = [rule for name in names for rule in rules_of(told, name, "in")[:-1]]
        self.assertEqual(sorted(left), dropped)
        self.assertEqual([rules_of(told, name, "out") for name in names[:9]], [[]] * 9)
        self.assertEqual(rules_of(told, "hj", "out"), dropped + [passed])


class Refused(unittest.TestCase):
    net = (TO, [("a", passing("out")), ("b", ([("in", PASS * 3), ("none", [])], []))], [])

    def test_no_house(self):
        for name in ("c", "", "A", "aa", "in"):
            for door, number in (("in", 0), ("in", 9), ("none", 0), ("x", -1)):
                check_refused(self, "NoHouse", rule_parts, self.net, name, door, number)

    def test_no_door(self):
        for name, door in (("a", "none"), ("b", "out"), ("a", ""), ("a", "a"), ("b", "i"), ("b", "inn")):
            for number in (0, -1, 9):
                check_refused(self, "NoDoor", rule_parts, self.net, name, door, number)

    def test_no_rule(self):
        for name, door, count in (("a", "in", 1), ("b", "in", 3), ("b", "none", 0)):
            for number in (-1, -2, -count, -count - 1, -(10 ** 30), count, count + 1, 300, 10 ** 30):
                if number < 0 or number >= count:
                    check_refused(self, "NoRule", rule_parts, self.net, name, door, number)

    def test_numbers_at_both_ends(self):
        for number in (0, 1, 2):
            self.assertIsNone(rule_parts(self.net, "b", "in", number))
        self.assertEqual(rule_parts(self.net, "a", "in", 0)[:2], ("a", "in"))
        self.assertEqual(rule_parts(self.net, "a", "out", 0)[:2], ("a", "out"))
