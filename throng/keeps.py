"""A keeper: a net that is changed deed by deed, and the classes at its open spots."""

from throng.backs import classes_picture
from throng.classes import Crowd
from throng.errors import NoDoor, NoLine, NoWay
from throng.fields import layout_width
from throng.houses import gate_rules
from throng.nets import check_lines, check_rule, check_way, house_named, net_checked, net_copied, net_spots, net_tied
from throng.nets import net_with_house, net_with_rules
from throng.rules import check_number, rules_without


class Keeper:
    def __init__(self, net):
        net_checked(net)
        self.net = net_copied(net)
        self.crowd = Crowd(self.net, {})
        # For each spot the classes that stand, and the rows of letters that are
        # in none of them by now.
        self.standing = {}
        self.fallen = {}
        for spot in net_spots(net):
            self.standing[spot] = []
            self.fallen[spot] = ["-" * layout_width(net[0])]

    def told(self, house, door):
        return [(row, end, list(met)) for row, end, met in self.classes_now(house, door)]

    def picture(self, house, door):
        return classes_picture(self.classes_now(house, door))

    def classes_now(self, house, door):
        if net_tied(self.net, house, door) is not None:
            raise NoDoor(f"door {door!r} of {house!r} is not open")
        spot = (house, door)
        self.standing[spot] = self.standing[spot] + self.crowd.heap_classes(spot, self.fallen[spot])
        self.fallen[spot] = []
        return self.standing[spot]

    def net_now(self):
        return net_copied(self.net)

    def put_rule(self, house, door, number, rule):
        rules = self.rules_at(house, door)
        # A rule may also be put in behind all others.
        check_number(number, len(rules) + 1)
        check_rule(self.net[0], rule[0], rule[1], rule[2])
        self.put_rules(house, door, rules[:number] + [rule] + rules[number:])

    def strike_rule(self, house, door, number):
        rules = self.rules_at(house, door)
        check_number(number, len(rules))
        self.put_rules(house, door, rules_without(rules, number))

    def rules_at(self, house, door):
        return gate_rules(house_named(self.net, house), door)

    def put_rules(self, house, door, rules):
        self.change(net_with_rules(self.net, house, door, rules), [house])

    def put_way(self, house, beginning, door):
        its = house_named(self.net, house)
        check_way(self.net[0], its, beginning, door, [way[0] for way in its[1]])
        self.put_ways(house, its[1] + [(beginning, door)])

    def strike_way(self, house, beginning):
        ways = house_named(self.net, house)[1]
        left = [way for way in ways if way[0] != beginning]
        if left == ways:
            raise NoWay(f"no way with {beginning!r} in {house!r}")
        self.put_ways(house, left)

    def put_ways(self, house, ways):
        gates = house_named(self.net, house)[0]
        self.change(net_with_house(self.net, house, (gates, ways)), [house])

    def tie(self, one, other):
        net = (self.net[0], self.net[1], self.net[2] + [(one, other)])
        # The lines that are there have no fault, so the first one met is the new line's.
        check_lines(net)
        self.change(net, [one[0], other[0]])

    def untie(self, house, door):
        end = net_tied(self.net, house, door)
        if end is None:
            raise NoLine(f"door {door!r} of {house!r} is open")
        lines = [line for line in self.net[2] if (house, door) not in line]
        self.change((self.net[0], self.net[1], lines), [house, end[0]])

    # Letters that don't come to a changed house fare as they did: their classes
    # stand, and the other letters are reckoned anew when they are asked for.
    def change(self, net, houses):
        self.net = net
        gates = self.crowd.gates
        self.crowd = Crowd(net, dict([(spot, gates[spot]) for spot in gates if spot[0] not in houses]))
        for spot in list(self.standing):
            classes = self.standing[spot]
            self.fallen[spot] = self.fallen[spot] + [row for row, end, met in classes if is_in_one(houses, met)]
            self.standing[spot] = [one for one in classes if not is_in_one(houses, one[2])]


def is_in_one(names, met):
    return any([name in met for name in names])
