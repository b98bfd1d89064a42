"""Points 41 and 42: mixed nets, and houses changed one by one, each change tried with the walks of each letter."""

import copy
import itertools
import random
import unittest

from tests.sets import HOUSES, PASS, TO, check_refused, deep_kinds, drawn_net, fares_against, is_broken, lies_in
from tests.sets import lines_round, narrow, other_rules, other_ways, passing, some_demand, some_house
from tests.sets import some_house_ways, some_layout, some_letters, some_places, some_signs, spots_of, spread, width_of
from tests.sets import with_rules, with_ways
from throng.turns import net_mixed, turn_order

WORDS = ["all", "none", "past", "calm"]


def plain_mixed(one, other, names):
    return (one[0], [(name, dict(other[1])[name] if name in names else house) for name, house in one[1]], one[2])


def unlike_of(one, other):
    return sorted(name for name, house in one[1] if house != dict(other[1])[name])


def plain_orders(kept, unlike):
    """All orders in which what is changed by then is kept at each step."""
    return [order for order in itertools.permutations(unlike)
            if all(kept(order[:count]) for count in range(1, len(order) + 1))]


class Turns(unittest.TestCase):
    def check(self, one, other, demands, places):
        """The nets and the demands tell none but these places; told is how many orders keep the demands."""
        letters = some_letters(random.Random(42), places, width_of(one))
        unlike = unlike_of(one, other)
        known = {}

        def kept(names):
            key = tuple(sorted(names))
            if key not in known:
                net = plain_mixed(one, other, key)
                known[key] = not any(is_broken(net, demand, letters) for demand in demands)
            return known[key]

        orders = plain_orders(kept, unlike)
        told = turn_order(one, other, demands)
        self.assertEqual(deep_kinds(told)[0], tuple)
        self.assertEqual(told[0], "yes" if orders else "no", (one, other, demands))
        self.assertIs(type(told[1]), list)
        if orders:
            self.assertIn(tuple(told[1]), orders)
        else:
            self.check_blocks(one, other, demands, told[1])
        return len(orders)

    def check_blocks(self, one, other, demands, blocks):
        unlike = unlike_of(one, other)
        for block in blocks:
            names, name, number, letter = block
            self.assertEqual(deep_kinds(block), (tuple, [(list, [str] * len(names)), str, int, str]))
            self.assertEqual(names, sorted(set(names) & set(unlike)))
            self.assertIn(name, set(unlike) - set(names))
            self.assertIn(number, range(len(demands)))
            self.assertEqual((len(letter), set(letter) - set("01")), (width_of(one), set()))
            self.assertTrue(any(lies_in(letter, row) for row in demands[number][3]))
            net = plain_mixed(one, other, names + [name])
            self.assertTrue(fares_against(net, demands[number], letter), (one, other, demands, block))
        steps = [(names, name) for names, name, number, letter in blocks]
        come = [[]]
        for names in come:
            for name in unlike:
                after = sorted(names + [name])
                if name not in names and (names, name) not in steps and after not in come:
                    come.append(after)
        self.assertNotIn(unlike, come)


def some_link(chance, layout, places, overs, doors):
    """A house that passes most letters on by its door out."""
    width = sum(size for name, size in layout)
    gates = []
    for door in doors:
        rules = [(some_signs(chance, width, chance.sample(list(places), min(2, len(places))), "01-"),
                  chance.choice(["drop", "pass"]), some_signs(chance, width, overs, "01-"))
                 for number in range(chance.randint(0, 2))]
        gates.append((door, rules + [("-" * width, "pass", some_signs(chance, width, overs, "01-----"))]))
    ways = dict([("", "out")] + some_house_ways(chance, layout, places, doors)[:chance.choice([0, 1])])
    return (gates, list(ways.items()))


class Drawn(Turns):
    """Nets drawn by chance, and demands that are kept in some of those that can be mixed of them."""

    def drawn(self, chance, width, unlike, count=None):
        layout = some_layout(chance, width)
        places = range(width) if count is None else some_places(chance, layout, count)
        overs = chance.sample(list(places), min(len(places), chance.randint(1, 5)))
        names = chance.sample(HOUSES, chance.randint(max(1, unlike), 7))
        make = chance.choice([some_house, some_link, some_link, some_link])
        doors = {name: ["in", "out", "side"][:chance.choice([2, 3])] for name in names}
        houses = [(name, make(chance, layout, places, overs, doors[name])) for name in names]
        changed = [(name, make(chance, layout, places, overs, doors[name]) if number < unlike else house)
                   for number, (name, house) in enumerate(houses)]
        turn = chance.sample(range(len(names)), len(names))
        lines = lines_round([names[number] for number in turn])[:len(names) - chance.choice([0, 1, 1, 1])]
        sides = [(name, "side") for name in names if len(doors[name]) == 3]
        lines.extend(zip(sides[::2], sides[1::2]))
        one, other = [(layout, [some[number] for number in turn], lines) for some in (houses, changed)]
        return one, copy.deepcopy(other), places

    def some_demands(self, chance, one, other, places, most):
        """Demands of all letters that fare as demanded in some of the nets, mostly the first and the last one."""
        letters = some_letters(random.Random(41), places, width_of(one))
        demands = []
        for number in range(chance.randint(1, most)):
            demand = some_demand(chance, one, places, chance.choice(WORDS))
            first, last = (one[1][0][0], "in"), (one[1][-1][0], "out")
            if chance.random() < 0.7 and first in spots_of(one) and last in spots_of(one):
                demand = (demand[0],) + first + ([], demand[4] and last + demand[4][2:], demand[5])
            some = chance.sample(unlike_of(one, other), len(unlike_of(one, other)) // 2)
            nets = chance.choice([[other], [one, other], [one, other], [one, plain_mixed(one, other, some)]])
            kept = [narrow(letter, places) for letter in letters
                    if not any(fares_against(net, demand, letter) for net in nets)]
            demands.append(demand[:3] + (spread(kept, places, width_of(one)),) + demand[4:])
        return demands

    def check_many(self, given):
        """Told is how often there were no orders, some, and all."""
        counts = {"none": 0, "some": 0, "all": 0}
        for chance, width, unlike, count, most in given:
            one, other, places = self.drawn(chance, width, unlike, count)
            demands = self.some_demands(chance, one, other, places, most)
            orders = self.check(one, other, demands, places)
            every = len(list(itertools.permutations(unlike_of(one, other))))
            counts["none" if orders == 0 else "all" if orders == every else "some"] += 1
        return counts

    def test_small_nets(self):
        unlike = [0, 1, 2, 3, 4, 4, 4]
        counts = self.check_many((random.Random(1000 * width + number), width, unlike[number % 7], None, 8)
                                 for width in range(1, 7) for number in range(120 if width < 5 else 20))
        for word, count in counts.items():
            self.assertGreater(count, 20, word)

    def test_six_unlike_houses(self):
        counts = self.check_many((random.Random(number), 3, 5 + number % 2, None, 9) for number in range(60))
        self.assertGreater(counts["none"], 3)
        self.assertGreater(counts["some"], 3)

    def test_wide_nets(self):
        chance = random.Random(48)
        counts = self.check_many((chance, width, chance.randint(2, 4), count, 8)
                                 for width in (7, 13, 30, 47, 48) for count in (2, 3, 4, 5, 6))
        for word, count in counts.items():
            self.assertGreater(count, 0, word)

    def test_demands_that_are_broken_first_or_last(self):
        for width in (2, 3, 4):
            chance = random.Random(width)
            for number in range(25):
                one, other, places = self.drawn(chance, width, chance.randint(0, 4))
                demands = [some_demand(chance, one, places, chance.choice(WORDS)) for number in range(2)]
                self.check(one, other, demands, places)

    def test_changed_in_one_place(self):
        chance = random.Random(41)
        for number in range(40):
            one, places = drawn_net(chance, 4)
            other = other_rules(chance, one, places)
            if chance.random() < 0.5:
                other = other_ways(chance, other, places)
            self.check(one, other, self.some_demands(chance, one, other, places, 3), places)


def stairs(count):
    """Two nets of so many houses one behind another, and a demand that is kept in one order alone: from the last on.

    Each house, when it is changed, writes a 1 at a place at which the house behind it, while it is not, wants a 0.
    """
    width = 6
    bare = "-" * width
    names = ["h" + sign for sign in "dbfaec"[:count]]
    nets = []
    for changed in (False, True):
        houses = []
        for number, name in enumerate(names):
            over = bare[:number] + "1" + bare[number + 1:] if changed and number < count - 1 else bare
            rules = [(bare, "pass", over)]
            if not changed and number > 0:
                rules.insert(0, (bare[:number - 1] + "1" + bare[number:], "drop", bare))
            elif changed and number == count - 1:
                rules.append((bare, "drop", bare))
            houses.append((name, ([("in", rules), ("out", [])], [("", "out")])))
        nets.append(([("a", 5), ("to", 1)], houses, lines_round(names)[:-1]))
    demand = ("all", names[0], "in", ["00000-"], (names[-1], "out", ["-" * width]), None)
    return nets[0], nets[1], [demand], names


class ByHand(Turns):
    # From a to b letters go with a 0 in front; changed both houses have a 1 there. By
    # itself neither can be changed.
    both = ("all", "a", "in", ["0-"], ("b", "out", ["--"]), None)
    one = (TO, [("a", ([("in", list(PASS)), ("out", [])], [("", "out")])),
                ("b", ([("in", [("0-", "pass", "--")]), ("out", [])], [("", "out")])), ("c", passing("out"))],
           [(("a", "out"), ("b", "in"))])
    other = (TO, [("a", ([("in", [("--", "pass", "1-")]), ("out", [])], [("", "out")])),
                  ("b", ([("in", [("1-", "pass", "--")]), ("out", [])], [("", "out")])), ("c", passing("in"))],
             [(("a", "out"), ("b", "in"))])

    def test_no_unlike_house(self):
        """The demands are asked for behind changes alone, so where there are none they may be broken."""
        for demands in ([], [self.both], [("none", "a", "in", ["--"], ("b", "out", ["--"]), None)]):
            self.assertEqual(turn_order(self.one, copy.deepcopy(self.one), demands), ("yes", []))
        self.assertEqual(turn_order((TO, [], []), (TO, [], []), []), ("yes", []))

    def test_one_unlike_house(self):
        other = plain_mixed(self.one, self.other, ["b"])
        self.assertEqual(turn_order(self.one, other, []), ("yes", ["b"]))
        told = turn_order(self.one, other, [("calm", "a", "in", ["--"], None, None), self.both])
        self.assertEqual((told[0], [block[:3] for block in told[1]]), ("no", [([], "b", 1)]))
        self.check(self.one, other, [self.both], range(2))
        self.assertEqual(turn_order(other, self.one, [self.both]), ("yes", ["b"]))

    def test_no_demands(self):
        told = turn_order(self.one, self.other, [])
        self.assertEqual((told[0], sorted(told[1])), ("yes", ["a", "b", "c"]))
        self.assertEqual(self.check(self.one, self.other, [], range(2)), 6)

    def test_broken_in_the_first_net_alone(self):
        """A demand that the first net breaks is kept behind the one change that mends it."""
        demand = ("none", "a", "in", ["--"], ("b", "out", ["0-"]), None)
        self.assertEqual(self.check(self.one, self.other, [demand], range(2)), 4)

    def test_each_first_change_breaks(self):
        one, other = [(net[0], net[1][:2], net[2]) for net in (self.one, self.other)]
        self.assertEqual(self.check(one, other, [self.both], range(2)), 0)
        told = turn_order(one, other, [self.both])
        self.assertEqual(sorted(block[:3] for block in told[1]), [([], "a", 0), ([], "b", 0)])

    def test_a_beginning_that_comes_to_no_end(self):
        """One house can be changed, and then no other one."""
        self.assertEqual(self.check(self.one, self.other, [self.both], range(2)), 0)
        told = turn_order(self.one, self.other, [self.both])
        self.assertEqual(sorted(block[:2] for block in told[1]), [([], "a"), ([], "b"), (["c"], "a"), (["c"], "b")])

    def test_one_beginning_comes_to_an_end_and_another_does_not(self):
        """Once the third house is changed, the first one may not be; so the first one goes ahead."""
        demands = [("none", "c", "in", ["1-"], ("c", "in", ["--"]), None)]
        one = with_rules(self.one, ("c", "in"), [])
        other = with_rules(with_ways(one, "c", [("", "in")]), ("a", "in"), [])
        other = with_rules(other, ("c", "in"), [("0-", "pass", "--")])
        self.assertEqual(self.check(one, other, demands, range(2)), 2)
        late = ("past", "a", "in", ["--"], ("b", "out", ["--"]), "c")
        self.assertEqual(self.check(one, other, demands + [late], range(2)), 1)
        self.assertEqual(turn_order(one, other, demands + [late]), ("yes", ["a", "c"]))

    def test_one_order_alone(self):
        for count in range(1, 7):
            one, other, demands, names = stairs(count)
            self.assertEqual(unlike_of(one, other), sorted(names))
            self.assertEqual(turn_order(one, other, demands), ("yes", names[::-1]))
            self.assertEqual(self.check(one, other, demands, range(6)), 1)

    def test_no_order_of_six(self):
        """The one order of six houses is barred at its last step by a second demand."""
        one, other, demands, names = stairs(6)
        barred = demands + [("none", names[0], "in", ["000000"], (names[-1], "out", ["11111-"]), None)]
        self.assertEqual(self.check(one, other, barred, range(6)), 0)
        told = turn_order(one, other, barred)
        self.assertIn((sorted(names[1:]), names[0], 1), [block[:3] for block in told[1]])

    def test_back_again(self):
        for count in (2, 4):
            one, other, demands, names = stairs(count)
            self.assertEqual(turn_order(other, one, demands), ("yes", names))

    def test_the_number_is_that_of_a_broken_demand(self):
        one, other, demands, names = stairs(3)
        kept = ("calm", names[0], "in", ["-" * 6], None, None)
        for number in range(4):
            some = [kept] * number + demands + [kept] * (3 - number) + [
                ("none", names[0], "in", ["0" * 6], (names[-1], "out", ["11----"]), None)]
            self.assertEqual(self.check(one, other, some, range(6)), 0)
            self.assertEqual({block[2] for block in turn_order(one, other, some)[1]}, {number, 4})

    def test_unlike_by_what_makes_no_odds(self):
        """Houses that are not equal are unlike, though all letters are treated alike."""
        house = ([("in", PASS + PASS), ("out", list(PASS))], [("", "out")])
        one = (TO, [("a", passing("out")), ("b", ([("in", []), ("out", [])], [("0", "in"), ("1", "out")]))], [])
        other = (TO, [("a", house), ("b", ([("in", []), ("out", [])], [("1", "out"), ("0", "in")]))], [])
        self.assertEqual(sorted(turn_order(one, other, [])[1]), ["a", "b"])

    def test_many_demands(self):
        one, other, demands, names = stairs(4)
        kept = ("past", names[0], "in", ["-" * 6], (names[-1], "out", ["-" * 6]), names[1])
        self.assertEqual(turn_order(one, other, [kept] * 299 + demands), ("yes", names[::-1]))


class Mixed(unittest.TestCase):
    def test_drawn(self):
        chance = random.Random(41)
        for number in range(60):
            one, other, places = Drawn().drawn(chance, chance.randint(1, 6), chance.randint(0, 6))
            names = [name for name, house in one[1]]
            some = chance.sample(names, chance.randint(0, len(names)))
            for given in ([], names, names[::-1], some, some + some, names + names[:1]):
                self.assertEqual(net_mixed(one, other, given), plain_mixed(one, other, given))
                back = [name for name in names if name not in given]
                self.assertEqual(net_mixed(other, one, given), plain_mixed(one, other, back))

    def test_by_hand(self):
        one, other = ByHand.one, ByHand.other
        self.assertEqual(net_mixed(one, other, []), one)
        self.assertEqual(net_mixed(one, other, ["a", "b", "c"]), other)
        self.assertEqual(net_mixed(one, other, ["b"]), (TO, [one[1][0], other[1][1], one[1][2]], one[2]))
        self.assertEqual(net_mixed(one, other, ["b", "b"]), net_mixed(one, other, ["b"]))
        self.assertEqual(net_mixed(one, other, ["c", "a"]), (TO, [other[1][0], one[1][1], other[1][2]], one[2]))
        self.assertEqual(net_mixed((TO, [], []), (TO, [], []), []), (TO, [], []))


class Refused(unittest.TestCase):
    net = (TO, [("a", passing("out")), ("b", ([("in", list(PASS)), ("side", []), ("out", [])], []))],
           [(("a", "out"), ("b", "in")), (("a", "in"), ("b", "side"))])
    turned = ([("out", list(PASS)), ("in", list(PASS))], [("", "out")])

    def unlike_nets(self):
        layout, houses, lines = self.net
        for other in ([("to", 2)], [("to", 1), ("a", 1)], [("b", 1), ("to", 1)], [("a", 1), ("to", 1), ("b", 1)]):
            if sum(size for name, size in other) == 2:
                yield (other, houses, lines)
            yield (other, [], [])
        yield (layout, houses, [])
        yield (layout, houses, lines[:1])
        yield (layout, houses, lines[::-1])
        yield (layout, houses, [lines[0][::-1], lines[1]])
        yield (layout, houses, [(("a", "out"), ("b", "in")), (("a", "in"), ("b", "out"))])
        yield (layout, houses[::-1], lines)
        yield (layout, houses + [("c", passing("out"))], lines)
        yield (layout, [("a", self.turned), houses[1]], lines)
        yield (layout, [houses[0], ("b", (houses[1][1][0][::-1], []))], lines)
        yield (layout, [houses[0], ("b", ([("in", []), ("side", [])], []))], lines)
        yield (layout, [houses[0], ("b", ([("in", []), ("side", []), ("ot", [])], []))], lines)

    def test_unlike(self):
        for other in self.unlike_nets():
            for one, its in ((self.net, other), (other, self.net)):
                for names in ([], ["a"], ["none"], ["a", "none", "b"]):
                    check_refused(self, "Unlike", net_mixed, one, its, names)
                check_refused(self, "Unlike", turn_order, one, its, [])
                check_refused(self, "Unlike", turn_order, one, its, [("calm", "a", "in", ["--"], None, None)])

    def test_other_names_and_no_houses(self):
        bare = (TO, [("a", passing("out"))], [])
        for other in ((TO, [], []), (TO, [("b", passing("out"))], []), (TO, [("a", ([], []))], [])):
            for one, its in ((bare, other), (other, bare)):
                check_refused(self, "Unlike", net_mixed, one, its, ["a"])
                check_refused(self, "Unlike", turn_order, one, its, [])

    def test_no_house(self):
        other = with_rules(self.net, ("a", "in"), [])
        for names in (["c"], ["a", "c"], ["c", "a"], ["a", "b", ""], ["A"], ["in"], ["ab"]):
            check_refused(self, "NoHouse", net_mixed, self.net, other, names)
            check_refused(self, "NoHouse", net_mixed, self.net, self.net, names)
        check_refused(self, "NoHouse", net_mixed, (TO, [], []), (TO, [], []), ["a"])

    def test_other_rules_and_ways_are_not_refused(self):
        other = (TO, [("a", ([("in", []), ("out", [])], [])), ("b", ([("in", []), ("side", []), ("out", PASS)], []))],
                 self.net[2])
        self.assertEqual(net_mixed(self.net, other, ["a", "b"]), other)
        self.assertEqual(sorted(turn_order(self.net, other, [])[1]), ["a", "b"])
        self.assertEqual(spots_of(other), spots_of(self.net))
