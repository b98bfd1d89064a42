"""Point 4, over the whole program: on the same nets all that is told agrees."""

import random
import unittest

from tests.sets import HOUSES, all_letters, counting, drawn_net, fared, fares_against, has_come, lies_in, narrow
from tests.sets import other_rules, other_ways, places_to, ring_of, rules_of, some_demand, some_letters, some_rows
from tests.sets import some_signs, spread, width_of, written
from throng.asks import can_come
from throng.backs import net_back, net_picture
from throng.blends import graph_blend
from throng.classes import net_classes
from throng.demands import demand_broken
from throng.errors import ThrongError
from throng.graphs import graph_has, graph_of, graph_size
from throng.heaps import heap_has
from throng.keeps import Keeper
from throng.kinds import net_kinds
from throng.nets import net_checked, net_house, net_open, net_spots
from throng.thins import net_thinned, rule_parts
from throng.turns import net_mixed, turn_order
from throng.twins import net_parted
from throng.walks import net_fared, net_walk

WORDS = ["all", "none", "past", "calm"]


def shape(end):
    return end[:3] if end[0] == "out" else end


class Whole(unittest.TestCase):
    def nets(self):
        """Nets of widths 1 to 6, some wide ones and rings, each with the places that it tells."""
        for width in range(1, 7):
            chance = random.Random(width)
            for number in range(16):
                yield (chance,) + drawn_net(chance, width, None, chance.choice([1, 3, 5]))
        chance = random.Random(48)
        for width in (9, 30, 48):
            for count in (3, 5):
                yield (chance,) + drawn_net(chance, width, count)
        yield chance, counting(3, 2, 1), range(5)
        yield chance, ring_of(["b", "a"]), range(2)

    def check_classes(self, net, spot, classes, letters):
        """That each letter lies in just one class, and its walk ends as that one tells."""
        for letter in letters:
            found = [one for one in classes if lies_in(letter, one[0])]
            self.assertEqual(len(found), 1)
            row, end, met = found[0]
            trail, its = net_walk(net, *spot, letter)
            self.assertEqual(end[:3] + (written(letter, end[3]),) if end[0] == "out" else end, its)
            self.assertEqual(met, sorted({step[0] for step in trail}))
            self.assertEqual(net_fared(net, *spot, letter), fared(its))

    def check_picture(self, net, spot, picture, letters):
        for letter in letters:
            found = [end for end, graph in picture if graph_has(graph, letter)]
            self.assertEqual(found, [shape(net_walk(net, *spot, letter)[1])])

    def fares(self, net, letters):
        return {spot + (letter,): net_fared(net, *spot, letter) for spot in net_open(net) for letter in letters}


class OneNet(Whole):
    def test_walks_classes_and_pictures(self):
        for chance, net, places in self.nets():
            self.assertTrue(net_checked(net))
            letters = some_letters(chance, places, width_of(net))
            for spot in net_spots(net):
                self.check_classes(net, spot, net_classes(net, *spot, ["-" * width_of(net)]), letters)
                self.check_picture(net, spot, net_picture(net, *spot), letters)

    def test_the_way_back(self):
        for chance, net, places in self.nets():
            letters = some_letters(chance, places, width_of(net))
            goal = chance.choice(net_open(net) or net_spots(net)) + (some_rows(chance, width_of(net), places, 3),)
            backs = dict(net_back(net, *goal[:2], graph_of(goal[2])))
            self.assertEqual(sorted(backs), net_spots(net))
            for spot in net_spots(net):
                for letter in letters:
                    come = has_come(net_walk(net, *spot, letter)[1], goal)
                    self.assertEqual(graph_has(backs[spot], letter), come)

    def test_can_come(self):
        for chance, net, places in self.nets():
            width = width_of(net)
            letters = some_letters(chance, places, width)
            for number in range(4):
                goal = chance.choice(net_open(net) or net_spots(net)) + (some_rows(chance, width, places, 3),)
                spot = chance.choice(net_spots(net))
                heap = some_rows(chance, width, places, 3)
                told = can_come(net, *spot, heap, goal)
                back = dict(net_back(net, *goal[:2], graph_of(goal[2])))[spot]
                some = graph_blend(graph_of(heap), back, "common")
                self.assertEqual(told[0], "no" if some == (0, []) else "yes")
                if told[0] == "yes":
                    self.assertTrue(heap_has(heap, told[1]) and graph_has(back, told[1]))
                    self.assertTrue(has_come(net_walk(net, *spot, told[1])[1], goal))
                else:
                    self.check_classes(net, spot, told[1], [letter for letter in letters if heap_has(heap, letter)])

    def test_demands(self):
        """By each word a demand is broken just where can_come, the way back or the picture tell so."""
        for chance, net, places in self.nets():
            for word in WORDS * 2:
                demand = some_demand(chance, net, places, word)
                told = demand_broken(net, demand)
                spot, heap, goal = demand[1:3], demand[3], demand[4]
                if word == "calm":
                    rings = [graph for end, graph in net_picture(net, *spot) if end[0] == "ring"]
                    against = [graph_blend(graph_of(heap), graph, "common") for graph in rings]
                elif word == "all":
                    back = dict(net_back(net, *goal[:2], graph_of(goal[2])))[spot]
                    against = [graph_blend(graph_of(heap), back, "less")]
                else:
                    beside = demand[5] if word == "past" else None
                    against = [(1, [])] if can_come(net, *spot, heap, goal, beside)[0] == "yes" else []
                self.assertEqual(told is not None, any(graph != (0, []) for graph in against), (net, demand))
                if told is not None:
                    self.assertTrue(heap_has(heap, told) and fares_against(net, demand, told))

    def test_kinds_and_pictures(self):
        """Each graph of a picture of an open spot has all letters of some kinds, and no others."""
        for chance, net, places in self.nets():
            width = width_of(net)
            kinds = net_kinds(net)
            self.assertEqual(sum(graph_size(kind, width) for kind in kinds), 2 ** width)
            ends = [[] for kind in kinds]
            for spot in net_open(net):
                for end, graph in net_picture(net, *spot):
                    for number, kind in enumerate(kinds):
                        both = graph_blend(graph, kind, "common")
                        self.assertIn(both, [kind, (0, [])])
                        ends[number].extend([spot + end] if both == kind else [])
            self.assertEqual(len({tuple(some) for some in ends}), len(kinds))


class TwoNets(Whole):
    def test_needless_rules(self):
        """What is told of a rule is what is told of the two nets, and how a keeper's letters fare."""
        for chance, net, places in self.nets():
            letters = some_letters(chance, places, width_of(net))
            for house, door in net_spots(net):
                for number in range(len(rules_of(net, house, door))):
                    keeper = Keeper(net)
                    keeper.strike_rule(house, door, number)
                    told = rule_parts(net, house, door, number)
                    self.assertEqual(told is None, net_parted(net, keeper.net_now()) is None)
                    if told is None:
                        for spot in net_open(net):
                            self.check_fares_stay(net, spot, keeper.told(*spot), letters)
                    else:
                        self.assertNotEqual(net_fared(net, *told), net_fared(keeper.net_now(), *told))

    def check_fares_stay(self, net, spot, classes, letters):
        for letter in letters:
            end = next(end for row, end, met in classes if lies_in(letter, row))
            its = end[:3] + (written(letter, end[3]),) if end[0] == "out" else end
            self.assertEqual(fared(its), net_fared(net, *spot, letter))

    def test_thinned(self):
        for chance, net, places in self.nets():
            letters = some_letters(chance, places, width_of(net))
            told = net_thinned(net)
            self.assertTrue(net_checked(told))
            self.assertIsNone(net_parted(net, told))
            self.assertIsNone(net_parted(told, net))
            self.assertEqual(self.fares(net, letters), self.fares(told, letters))
            for spot in net_spots(told):
                for number in range(len(rules_of(told, *spot))):
                    self.assertIsNotNone(rule_parts(told, *spot, number))
            self.assertEqual(net_thinned(told), told)
            self.check_struck_by_a_keeper(net, told, letters)

    def check_struck_by_a_keeper(self, net, told, letters):
        """The keeper's net becomes the thinned one when it strikes the same rules, from the last on."""
        keeper = Keeper(net)
        for spot in net_spots(net):
            left = list(rules_of(told, *spot))
            for number in range(len(rules_of(net, *spot)) - 1, -1, -1):
                if left and left[-1] == rules_of(net, *spot)[number]:
                    left.pop()
                else:
                    keeper.strike_rule(*spot, number)
        self.assertEqual(keeper.net_now(), told)
        for spot in net_open(net):
            self.check_fares_stay(net, spot, keeper.told(*spot), letters)
            self.assertEqual(keeper.picture(*spot), net_picture(told, *spot))

    def test_parted_by_a_change(self):
        for chance, net, places in self.nets():
            letters = some_letters(chance, places, width_of(net))
            for change in (other_rules, other_ways):
                other = change(chance, net, places)
                told = net_parted(net, other)
                self.assertEqual(told is None, self.fares(net, letters) == self.fares(other, letters))
                if told is not None:
                    self.assertNotEqual(net_fared(net, *told), net_fared(other, *told))


class Changed(Whole):
    def some_deed(self, chance, net, places, overs):
        """The name of a deed and what it is given, perhaps such that it is refused."""
        width = width_of(net)
        spots = net_spots(net)
        house, door = chance.choice(spots)
        signs = "".join(chance.choice("01") for sign in range(chance.randint(0, 1)))
        rule = (some_signs(chance, width, places, "01--"), chance.choice(["pass", "pass", "drop"]),
                some_signs(chance, width, overs, "01---"))
        return chance.choice([("put_rule", house, door, chance.randint(0, 2), rule),
                              ("strike_rule", house, door, chance.randint(0, 2)), ("put_way", house, signs, door),
                              ("strike_way", house, signs), ("tie", (house, door), chance.choice(spots)),
                              ("untie", house, door)])

    def test_a_keeper_behind_deeds(self):
        for chance, net, places in self.nets():
            # A way that is put in tells the first place of the field "to".
            if places_to(net[0])[0] not in places:
                continue
            letters = some_letters(chance, places, width_of(net))
            keeper = Keeper(net)
            overs = sorted({place for spot in net_spots(net) for rule in rules_of(net, *spot)
                            for place, sign in enumerate(rule[2]) if sign != "-"})
            for number in range(6):
                deed = self.some_deed(chance, net, places, overs)
                try:
                    getattr(keeper, deed[0])(*deed[1:])
                except ThrongError:
                    continue
                now = keeper.net_now()
                self.assertTrue(net_checked(now))
                for spot in net_open(now):
                    self.check_classes(now, spot, keeper.told(*spot), letters)
                    self.check_picture(now, spot, keeper.picture(*spot), letters)
                    self.assertEqual(keeper.picture(*spot), net_picture(now, *spot))
                self.assertIsNone(net_parted(now, net_thinned(now)))
                self.assertEqual(net_kinds(now), net_kinds(Keeper(now).net_now()))

    def test_houses_changed_one_by_one(self):
        """Behind each change of a told order no demand is broken in the mixed net; at each block one is."""
        words = []
        for chance, net, places in self.nets():
            other = net
            for number in range(3):
                other = other_rules(chance, other, places)
            letters = some_letters(chance, places, width_of(net))
            demands = [self.kept_demand(chance, other, places, letters) for number in range(3)]
            told = turn_order(net, other, demands)
            words.append(told[0])
            if told[0] == "yes":
                for count in range(1, len(told[1]) + 1):
                    mixed = net_mixed(net, other, told[1][:count])
                    self.assertEqual([demand_broken(mixed, demand) for demand in demands], [None] * 3)
                self.assertIsNone(net_parted(net_mixed(net, other, told[1]), other))
                self.assertEqual(net_mixed(net, other, told[1]), other)
            for names, name, number, letter in told[1] if told[0] == "no" else []:
                mixed = net_mixed(net, other, names + [name])
                self.assertEqual(net_house(mixed, name), net_house(other, name))
                self.assertIsNotNone(demand_broken(mixed, demands[number]))
                self.assertTrue(heap_has(demands[number][3], letter))
                self.assertTrue(fares_against(mixed, demands[number], letter))
        self.assertIn("yes", words)

    def kept_demand(self, chance, net, places, letters):
        """A demand of all letters that fare so in the net."""
        demand = some_demand(chance, net, places, chance.choice(WORDS))
        kept = [narrow(letter, places) for letter in letters if not fares_against(net, demand, letter)]
        return demand[:3] + (spread(kept, places, width_of(net)),) + demand[4:]

    def test_thinned_and_changed(self):
        """Without demands a net can be changed into the thinned one, which keeps what hangs on how letters fare."""
        for chance, net, places in self.nets():
            thin = net_thinned(net)
            letters = some_letters(chance, places, width_of(net))
            demand = self.kept_demand(chance, net, places, letters)
            told = turn_order(net, thin, [])
            self.assertEqual(told[0], "yes")
            self.assertEqual(net_mixed(net, thin, told[1]), thin)
            if demand[1:3] in net_open(net) and demand[0] in ("all", "none"):
                self.assertIsNone(demand_broken(thin, demand))


class AllLetters(unittest.TestCase):
    def test_ten_houses(self):
        """Ten houses with a door each way, each asking at one place and writing at another."""
        names = HOUSES
        width = 7
        houses = []
        for number, name in enumerate(names):
            bare = ["-"] * width
            asked, over = list(bare), list(bare)
            asked[number % 6] = "1"
            over[(number + 2) % 5] = "01"[number % 2]
            rules = [("".join(asked), "pass", "".join(over)), ("-" * 6 + "1", "pass", "-" * width)]
            houses.append((name, ([("in", rules), ("out", rules[::-1])], [("", "out"), ("11", "in")])))
        lines = [((one, "out"), (other, "in")) for one, other in zip(names, names[1:])]
        net = ([("to", 3), ("a", 4)], houses, lines)
        letters = all_letters(width)
        thin = net_thinned(net)
        for spot in net_open(net):
            classes = net_classes(net, *spot, ["-" * width])
            for letter in letters:
                trail, end = net_walk(net, *spot, letter)
                found = [one for one in classes if lies_in(letter, one[0])]
                self.assertEqual([(one[1][:3], one[2]) for one in found], [(end[:3], sorted({s[0] for s in trail}))])
                self.assertEqual(net_fared(thin, *spot, letter), fared(end))
        self.assertEqual(sum(graph_size(kind, width) for kind in net_kinds(net)), 128)
