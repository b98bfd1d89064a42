"""Points 34 and 35, and what is due of point 4: keepers, held against what is reckoned anew behind each deed."""

import copy
import itertools
import random
import unittest

from tests.sets import OTHER_SIGNS, OTHER_THINGS, PASS, TO, check_classes, check_refused, deep_kinds, open_of, passing
from tests.sets import places_to, plain_picture, plain_walks, ring_of, rules_of, some_layout, some_net, some_places
from tests.sets import some_signs, spots_of, width_of
from throng.keeps import Keeper

DEEDS = ["put_rule", "strike_rule", "put_way", "strike_way", "tie", "untie"]


def lines_at(net, spot):
    return [line for line in net[2] if spot in line]


def spot_fault(net, house, door):
    """By the document's words, as the faults below: None, or the refusal that is due."""
    if house not in dict(net[1]):
        return "NoHouse"
    return None if door in dict(dict(net[1])[house][0]) else "NoDoor"


def rule_fault(net, number, most, rule):
    if not 0 <= number <= most:
        return "NoRule"
    for part, kind in zip(rule, ("Misfit", "BadWord", "Misfit")):
        if kind == "BadWord" and part not in ["pass", "drop"]:
            return kind
        if kind == "Misfit" and not (isinstance(part, str) and len(part) == width_of(net) and set(part) <= set("01-")):
            return kind
    return None


def way_fault(net, house, beginning, door):
    if not isinstance(beginning, str) or len(beginning) > len(places_to(net[0])) or set(beginning) - set("01"):
        return "Misfit"
    if beginning in dict(dict(net[1])[house][1]):
        return "Twice"
    return spot_fault(net, house, door)


def tie_fault(net, one, other):
    for spot, ahead in ((one, None), (other, one)):
        fault = spot_fault(net, *spot)
        if fault is not None:
            return fault
        if lines_at(net, spot) or spot == ahead:
            return "Twice"
    return None


def plain_fault(net, deed, given):
    if deed == "tie":
        return tie_fault(net, *given)
    if given[0] not in dict(net[1]):
        return "NoHouse"
    if deed == "put_way":
        return way_fault(net, *given)
    if deed == "strike_way":
        return None if given[1] in dict(dict(net[1])[given[0]][1]) else "NoWay"
    fault = spot_fault(net, *given[:2])
    if fault is not None:
        return fault
    if deed == "untie":
        return None if lines_at(net, given[:2]) else "NoLine"
    most = len(rules_of(net, *given[:2])) - (deed == "strike_rule")
    return rule_fault(net, given[2], most, given[3] if deed == "put_rule" else ())


def plain_done(net, deed, given):
    """Does the deed to the net itself, and tells the deed's houses."""
    if deed == "tie":
        net[2].append(given)
        return [given[0][0], given[1][0]]
    if deed == "untie":
        line = lines_at(net, given)[0]
        net[2].remove(line)
        return [line[0][0], line[1][0]]
    if deed == "put_rule":
        rules_of(net, *given[:2]).insert(given[2], given[3])
    elif deed == "strike_rule":
        rules_of(net, *given[:2]).pop(given[2])
    elif deed == "put_way":
        dict(net[1])[given[0]][1].append(given[1:])
    else:
        ways = dict(net[1])[given[0]][1]
        ways.remove((given[1], dict(ways)[given[1]]))
    return [given[0]]


class Watch:
    """A keeper, its net as it must be by now, and what it told last."""

    def __init__(self, test, net, places):
        self.test = test
        self.net = copy.deepcopy(net)
        self.places = places
        self.keeper = Keeper(net)
        self.chance = random.Random(34)
        self.told = {}
        self.changed = {}
        self.refused = []

    def do(self, deed, *given):
        fault = plain_fault(self.net, deed, given)
        self.refused.append(fault)
        if fault is None:
            self.test.assertIsNone(getattr(self.keeper, deed)(*given))
            houses = plain_done(self.net, deed, given)
            for spot in self.changed:
                self.changed[spot].extend(houses)
        else:
            check_refused(self.test, fault, getattr(self.keeper, deed), *given)
        now = self.keeper.net_now()
        self.test.assertEqual(now, self.net)
        self.test.assertEqual(deep_kinds(now), deep_kinds(self.net))
        return fault

    def check(self):
        for spot in spots_of(self.net):
            if spot in open_of(self.net):
                self.check_told(spot)
            else:
                check_refused(self.test, "NoDoor", self.keeper.told, *spot)
                check_refused(self.test, "NoDoor", self.keeper.picture, *spot)

    def check_told(self, spot):
        walks = plain_walks(self.chance, self.net, self.places, *spot)
        if self.chance.random() < 0.3:
            self.check_picture(spot, walks)
        told = self.keeper.told(*spot)
        width = width_of(self.net)
        check_classes(self.test, told, width, self.places, ["-" * width], walks)
        self.check_stands(spot, told)
        self.check_picture(spot, walks)
        self.test.assertEqual(self.keeper.told(*spot), told)
        self.told[spot] = told
        self.changed[spot] = []

    def check_stands(self, spot, told):
        if spot in self.told:
            changed = self.changed[spot]
            if changed == []:
                self.test.assertEqual(told, self.told[spot])
            for one in self.told[spot]:
                if not set(one[2]) & set(changed):
                    self.test.assertIn(one, told)

    def check_picture(self, spot, walks):
        wanted = plain_picture(walks, self.places)
        told = self.keeper.picture(*spot)
        self.test.assertEqual(told, wanted)
        self.test.assertEqual(deep_kinds(told), deep_kinds(wanted))


def some_rule(chance, net, places, overs, wrong):
    width = width_of(net)
    return (some_signs(chance, width, places, "01-"), chance.choice(["pass", "pass", "drop"] + ["go"] * wrong),
            some_signs(chance, width, overs, "01--") + "-" * (wrong and chance.random() < 0.3))


def some_beginning(chance, net, places, wrong):
    to = places_to(net[0])
    if wrong and chance.random() < 0.3:
        return "0" * (len(to) + 1)
    longest = next((number for number, place in enumerate(to) if place not in places), len(to))
    return "".join(chance.choice("01") for sign in range(chance.randint(0, longest)))


def some_deed(chance, net, places, overs, wrong):
    """A deed and what it is given; a wrong one may be refused."""
    names = [name for name, house in net[1]] + ["nohouse"] * wrong
    spots = spots_of(net) + [("nohouse", "in"), (names[0], "nodoor")] * wrong
    deed = chance.choice(DEEDS)
    spot = chance.choice(spots or [("nohouse", "in")])
    name = chance.choice(names)
    count = 0 if spot_fault(net, *spot) else len(rules_of(net, *spot))
    if deed == "put_rule":
        return deed, spot + (chance.randint(-wrong, count + wrong), some_rule(chance, net, places, overs, wrong))
    if deed == "strike_rule":
        return deed, spot + (chance.randint(-wrong, count - 1 + wrong) if count else 0,)
    if deed == "put_way":
        doors = [door for its, door in spots_of(net) if its == name]
        return deed, (name, some_beginning(chance, net, places, wrong),
                      chance.choice(doors + ["nodoor"] * (wrong or not doors)))
    if deed == "strike_way":
        ways = [way[0] for its, house in net[1] if its == name for way in house[1]]
        return deed, (name, chance.choice(ways) if ways and not wrong else some_beginning(chance, net, places, False))
    if deed == "tie":
        free = open_of(net)
        return deed, (spot, chance.choice(spots or [spot])) if len(free) < 2 or wrong else tuple(chance.sample(free, 2))
    tied = [spot for line in net[2] for spot in line]
    return deed, chance.choice(tied) if tied and not wrong else spot


class Deeds(unittest.TestCase):
    def run_deeds(self, seed, net, places, count, asked):
        chance = random.Random(seed)
        overs = sorted({place for name, house in net[1] for door, rules in house[0] for rule in rules
                        for place, sign in enumerate(rule[2]) if sign != "-"})
        overs = (overs + [place for place in places if place not in overs])[:5]
        watch = Watch(self, net, places)
        watch.check()
        done = []
        for number in range(count):
            deed, given = some_deed(chance, watch.net, places, overs, chance.random() < 0.3)
            done.append((deed, watch.do(deed, *given)))
            if chance.random() < asked:
                watch.check()
        watch.check()
        return done


class SomeDeeds(Deeds):
    def test_small_nets(self):
        done = []
        for width in range(1, 7):
            for number in range(15):
                chance = random.Random(width * 100 + number)
                net = some_net(chance, some_layout(chance, width), range(width), 4)
                done.extend(self.run_deeds(number, net, range(width), 25, 0.8))
        for deed in DEEDS:
            self.assertGreater(done.count((deed, None)), 100, deed)
        for deed, kinds in (("put_rule", ["NoHouse", "NoDoor", "NoRule", "BadWord", "Misfit"]),
                            ("strike_rule", ["NoHouse", "NoDoor", "NoRule"]), ("strike_way", ["NoHouse", "NoWay"]),
                            ("put_way", ["NoHouse", "Misfit", "Twice", "NoDoor"]),
                            ("tie", ["NoHouse", "NoDoor", "Twice"]), ("untie", ["NoHouse", "NoDoor", "NoLine"])):
            for kind in kinds:
                self.assertIn((deed, kind), done)

    def test_asked_seldom(self):
        for number in range(40):
            chance = random.Random(number)
            net = some_net(chance, some_layout(chance, 4), range(4), 5)
            self.run_deeds(number, net, range(4), 30, 0.15)

    def test_many_houses(self):
        for number in range(12):
            chance = random.Random(number)
            net = some_net(chance, some_layout(chance, 4), range(4), 10)
            self.run_deeds(number, net, range(4), 20, 0.5)

    def test_nets_with_all_spots_tied(self):
        chance = random.Random(35)
        for number in range(20):
            net = some_net(chance, some_layout(chance, 4), range(4), 5)
            spots = spots_of(net)
            chance.shuffle(spots)
            net = net[:2] + ([tuple(spots[at:at + 2]) for at in range(0, len(spots) - 1, 2)],)
            self.run_deeds(number, net, range(4), 20, 1)

    def test_wide_nets(self):
        chance = random.Random(48)
        for width in (7, 13, 30, 47, 48):
            for count in (2, 4, 4, 6, 6):
                layout = some_layout(chance, width)
                places = some_places(chance, layout, count)
                self.run_deeds(width, some_net(chance, layout, places, 4), places, 15, 0.6)

    def test_twelve_places(self):
        chance = random.Random(12)
        places = [0, 2, 11, 18, 19, 20, 21, 22, 23, 31, 46, 47]
        net = (TO, [], [])
        while len(open_of(net)) < 2 or len(net[1]) < 3:
            net = some_net(chance, [("a", 20), ("to", 20), ("b", 8)], places, 3)
        self.run_deeds(12, net, places, 8, 0.3)


class ByHand(Deeds):
    def watch(self, net):
        watch = Watch(self, net, range(width_of(net)))
        watch.check()
        return watch

    def pair(self):
        """Houses a and b with a third that stands by itself."""
        return (TO, [(name, passing("out")) for name in ("a", "b", "c")], [(("a", "out"), ("b", "in"))])

    def test_rule_put_at_both_ends(self):
        watch = self.watch((TO, [("a", passing("out"))], []))
        for number, rule in ((0, ("0-", "drop", "--")), (2, ("--", "drop", "--")), (1, ("10", "pass", "-1")),
                             (0, ("00", "pass", "1-")), (5, ("11", "pass", "--"))):
            self.assertIsNone(watch.do("put_rule", "a", "in", number, rule))
            watch.check()
        self.assertEqual([rule[0] for rule in rules_of(watch.keeper.net_now(), "a", "in")],
                         ["00", "0-", "10", "--", "--", "11"])
        for number in (5, 0, 0, 0, 0, 0):
            self.assertIsNone(watch.do("strike_rule", "a", "in", number))
            watch.check()
        self.assertEqual(watch.keeper.told("a", "in"), [("--", ("drop", "a", "in", 0), ["a"])])
        check_refused(self, "NoRule", watch.keeper.strike_rule, "a", "in", 0)
        self.assertIsNone(watch.do("put_rule", "a", "in", 0, PASS[0]))
        watch.check()

    def test_ways(self):
        watch = self.watch((TO, [("a", passing("out"))], []))
        for deed, given in (("strike_way", [""]), ("put_way", ["1", "in"]), ("put_way", ["", "out"]),
                            ("put_way", ["0", "in"]), ("strike_way", ["1"]), ("strike_way", [""]),
                            ("strike_way", ["0"])):
            self.assertIsNone(watch.do(deed, "a", *given))
            watch.check()
        self.assertEqual(watch.keeper.told("a", "in"), [("--", ("lost", "a", "in"), ["a"])])

    def test_way_is_put_in_behind_all_others(self):
        keeper = Keeper((TO, [("a", passing("out"))], []))
        keeper.put_way("a", "1", "in")
        keeper.put_way("a", "0", "in")
        keeper.strike_way("a", "")
        keeper.put_way("a", "", "in")
        self.assertEqual(dict(keeper.net_now()[1])["a"][1], [("1", "in"), ("0", "in"), ("", "in")])

    def test_line_is_put_in_behind_all_others(self):
        keeper = Keeper(self.pair())
        keeper.tie(("c", "out"), ("b", "out"))
        keeper.tie(("c", "in"), ("a", "in"))
        keeper.untie("b", "in")
        keeper.tie(("b", "in"), ("a", "out"))
        self.assertEqual(keeper.net_now()[2], [(("c", "out"), ("b", "out")), (("c", "in"), ("a", "in")),
                                               (("b", "in"), ("a", "out"))])
        self.assertEqual(deep_kinds(keeper.net_now()[2]),
                         (list, [(tuple, [(tuple, [str, str]), (tuple, [str, str])])] * 3))

    def test_spot_closed_and_opened_again(self):
        watch = self.watch(self.pair())
        for spot in (("b", "out"), ("c", "in")):
            self.assertIsNone(watch.do("tie", ("b", "out"), ("c", "in")))
            watch.check()
            check_refused(self, "NoDoor", watch.keeper.told, "b", "out")
            check_refused(self, "NoDoor", watch.keeper.picture, "c", "in")
            self.assertEqual(watch.keeper.told("a", "in"), [("--", ("out", "c", "out", "--"), ["a", "b", "c"])])
            self.assertIsNone(watch.do("untie", *spot))
            watch.check()
            self.assertEqual(watch.keeper.told("a", "in"), [("--", ("out", "b", "out", "--"), ["a", "b"])])
            self.assertEqual(watch.keeper.told("c", "in"), [("--", ("out", "c", "out", "--"), ["c"])])

    def test_two_spots_of_one_house(self):
        watch = self.watch((TO, [("a", passing("out")), ("b", ([("x", PASS), ("in", PASS), ("out", PASS)],
                                                               [("0", "out"), ("1", "x")]))], []))
        self.assertIsNone(watch.do("tie", ("b", "out"), ("b", "in")))
        watch.check()
        self.assertEqual(dict(watch.keeper.picture("b", "x"))[("ring", "b")], (2, [(1, 1, 0)]))
        self.assertIsNone(watch.do("untie", "b", "out"))
        watch.check()
        self.assertEqual(watch.do("tie", ("b", "out"), ("b", "out")), "Twice")
        watch.check()

    def test_ring_closed_and_opened(self):
        net = ring_of(["b", "a", "c"])
        watch = self.watch((net[0], net[1], net[2][:2]))
        self.assertIsNone(watch.do("tie", *net[2][2]))
        watch.check()
        for line in net[2]:
            self.assertIsNone(watch.do("untie", *line[1]))
            watch.check()
            self.assertIsNone(watch.do("tie", *line))
            watch.check()

    def test_classes_that_stand(self):
        """The letters that a sends to c are told as they were, whatever is done to b."""
        house = ([("in", list(PASS)), ("x", []), ("y", [])], [("0", "x"), ("1", "y")])
        net = (TO, [("a", house), ("b", passing("out")), ("c", passing("out"))],
               [(("a", "x"), ("b", "in")), (("a", "y"), ("c", "in"))])
        watch = self.watch(net)
        stands = ("-1", ("out", "c", "out", "--"), ["a", "c"])
        for deed, given in (("put_rule", ("b", "in", 0, ("1-", "drop", "--"))), ("put_way", ("b", "1", "in")),
                            ("strike_rule", ("b", "in", 1)), ("tie", (("b", "out"), ("b", "in"))),
                            ("untie", ("b", "in")), ("strike_way", ("b", ""))):
            before = watch.keeper.told("a", "in")
            watch.do(deed, *given)
            watch.check()
            for one in before:
                if "b" not in one[2]:
                    self.assertIn(one, watch.keeper.told("a", "in"))
            self.assertIn(stands, watch.keeper.told("a", "in"))

    def test_net_without_doors(self):
        keeper = Keeper((TO, [("a", ([], []))], []))
        check_refused(self, "NoDoor", keeper.told, "a", "in")
        check_refused(self, "NoDoor", keeper.put_way, "a", "", "in")
        self.assertEqual(keeper.net_now(), (TO, [("a", ([], []))], []))

    def test_two_keepers_of_one_net(self):
        net = self.pair()
        one, other = Keeper(net), Keeper(net)
        one.put_rule("b", "in", 0, ("--", "drop", "--"))
        self.assertEqual(other.told("a", "in"), [("--", ("out", "b", "out", "--"), ["a", "b"])])
        self.assertEqual(one.told("a", "in"), [("--", ("drop", "b", "in", 0), ["a", "b"])])
        self.assertEqual((net, other.net_now()), (self.pair(), self.pair()))


class Refused(unittest.TestCase):
    def setUp(self):
        houses = [(name, passing("out")) for name in ("a", "b", "c")] + [("d", ([], []))]
        self.net = (TO, houses, [(("a", "out"), ("b", "in"))])
        self.keeper = Keeper(self.net)
        self.told = {spot: self.keeper.told(*spot) for spot in open_of(self.net)}

    def tearDown(self):
        """What is refused changes nothing."""
        self.assertEqual(self.keeper.net_now(), self.net)
        for spot in open_of(self.net):
            self.assertEqual(self.keeper.told(*spot), self.told[spot])

    def refused(self, kind, deed, *given):
        self.assertEqual(plain_fault(self.net, deed, given), kind)
        check_refused(self, kind, getattr(self.keeper, deed), *given)

    def test_told_and_picture(self):
        for asked in (self.keeper.told, self.keeper.picture):
            for name in ("", "e", "aa", "in"):
                check_refused(self, "NoHouse", asked, name, "in")
                check_refused(self, "NoHouse", asked, name, "none")
            for spot in (("a", "none"), ("a", ""), ("d", "in"), ("a", "out"), ("b", "in")):
                check_refused(self, "NoDoor", asked, *spot)

    def test_put_rule(self):
        bad = ("0", "go", "0")
        for number, rule in itertools.product((-1, 2, 0), (bad, PASS[0])):
            self.refused("NoHouse", "put_rule", "no", "in", number, rule)
            self.refused("NoHouse", "put_rule", "no", "none", number, rule)
            self.refused("NoDoor", "put_rule", "a", "none", number, rule)
            self.refused("NoDoor", "put_rule", "d", "in", number, rule)
        for number, rule in itertools.product((-300, -2, -1, 2, 3, 300), (bad, PASS[0])):
            for spot in (("a", "in"), ("a", "out"), ("b", "in")):
                self.refused("NoRule", "put_rule", *spot, number, rule)

    def test_rule_put(self):
        others = [thing for thing in OTHER_THINGS if thing not in ("pass", "drop")]
        for number in (0, 1):
            for thing in others + ["", "0", "---", "pass"] + ["0" + sign for sign in OTHER_SIGNS]:
                for word, over in itertools.product(("pass", "go"), ("--", "0")):
                    self.refused("Misfit", "put_rule", "a", "in", number, (thing, word, over))
                self.refused("Misfit", "put_rule", "a", "in", number, ("--", "drop", thing))
            for thing in others + ["", "Pass", "pass ", "dropp", "--"]:
                for over in ("--", "0", None):
                    self.refused("BadWord", "put_rule", "a", "in", number, ("--", thing, over))

    def test_strike_rule(self):
        for number in (-1, 0, 1):
            self.refused("NoHouse", "strike_rule", "no", "in", number)
            self.refused("NoDoor", "strike_rule", "a", "none", number)
            self.refused("NoDoor", "strike_rule", "d", "in", number)
        for number in (-300, -2, -1, 1, 2, 300):
            self.refused("NoRule", "strike_rule", "a", "in", number)

    def test_put_way(self):
        for beginning, door in itertools.product(("", "0", "00", None), ("in", "none")):
            self.refused("NoHouse", "put_way", "no", beginning, door)
        for thing in OTHER_THINGS + ["00", "-", "0" * 48] + OTHER_SIGNS:
            for door in ("in", "none"):
                self.refused("Misfit", "put_way", "a", thing, door)
                self.refused("Misfit", "put_way", "d", thing, door)
        for door in ("in", "none", ""):
            self.refused("Twice", "put_way", "a", "", door)
        for door in ("none", "", "a", "to"):
            self.refused("NoDoor", "put_way", "a", "0", door)
        self.refused("NoDoor", "put_way", "d", "", "in")

    def test_strike_way(self):
        for beginning in ("", "0", "000"):
            self.refused("NoHouse", "strike_way", "no", beginning)
            self.refused("NoWay", "strike_way", "d", beginning)
        for beginning in ("0", "1", "00", "-", "in", "out"):
            self.refused("NoWay", "strike_way", "a", beginning)

    def test_tie(self):
        good, tied, no_door, no_house = ("c", "in"), ("b", "in"), ("c", "none"), ("no", "in")
        for other in (good, tied, no_door, no_house):
            self.refused("NoHouse", "tie", no_house, other)
            self.refused("NoHouse", "tie", ("no", "none"), other)
            self.refused("NoDoor", "tie", no_door, other)
            self.refused("NoDoor", "tie", ("d", "in"), other)
            self.refused("Twice", "tie", tied, other)
            self.refused("Twice", "tie", ("a", "out"), other)
        self.refused("NoHouse", "tie", good, no_house)
        self.refused("NoDoor", "tie", good, no_door)
        self.refused("Twice", "tie", good, tied)
        self.refused("Twice", "tie", good, good)

    def test_untie(self):
        for door in ("in", "none"):
            self.refused("NoHouse", "untie", "no", door)
            self.refused("NoDoor", "untie", "d", door)
        self.refused("NoDoor", "untie", "a", "none")
        for spot in open_of(self.net):
            self.refused("NoLine", "untie", *spot)

    def test_nets(self):
        house = passing("out")
        for kind, net in (("Twice", (TO + TO, [], [])), ("Misfit", ([("to", 0)], [], [])), ("NoField", ([], [], [])),
                          ("Twice", (TO, [("a", house), ("a", house)], [])),
                          ("Misfit", (TO, [("a", ([("in", [("-", "go", "-")])], []))], [])),
                          ("BadWord", (TO, [("a", ([("in", [("--", "go", "-")])], []))], [])),
                          ("NoDoor", (TO, [("a", ([], [("", "in")]))], [])),
                          ("NoHouse", (TO, [("a", house)], [(("b", "in"), ("a", "in"))])),
                          ("Twice", (TO, [("a", house)], [(("a", "in"), ("a", "in"))]))):
            check_refused(self, kind, Keeper, net)
