"""Thins: which rules of a net are needless, and the net without such rules."""

from throng.classes import Crowd
from throng.fields import layout_width
from throng.forks import fork_of, fork_parts
from throng.houses import Gate, gate_rules
from throng.nets import house_named, net_copied, net_open, net_spots, net_with_rules
from throng.rules import check_number, rules_without
from throng.twins import ends_parted, net_parted


def rule_parts(net, house, door, number):
    rules = gate_rules(house_named(net, house), door)
    check_number(number, len(rules))
    return net_parted(net, net_with_rules(net, house, door, rules_without(rules, number)))


def net_thinned(net):
    thinner = Thinner(net)
    thinner.thin()
    return thinner.net_left()


# A gate from which rules are struck: the others keep their numbers.
class Sieve:
    def __init__(self, layout, house, door):
        self.gate = Gate(layout, house, door)
        self.rules = self.gate.rules
        self.struck = {}

    # Letters for which the rule counted go on to those behind it.
    def strike(self, number):
        behind = [its for its in range(number + 1, len(self.rules)) if its not in self.struck]
        fork = fork_of([self.rules[its][0] for its in behind], self.rules[number][0])
        self.struck[number] = (fork, behind + [len(self.rules)])

    def put_back(self, number):
        self.struck.pop(number)

    def ruled_parts(self, row):
        parts = []
        waiting = fork_parts(self.gate.rules_fork, row, "-" * len(row))
        while waiting != []:
            one = waiting.pop()
            if one[1] in self.struck:
                waiting.extend(self.parts_behind(one[0], one[1]))
            else:
                parts.extend(self.gate.done_parts(one[0], one[1]))
        return parts

    def parts_behind(self, row, number):
        behind = self.struck[number]
        return [(part, behind[1][its]) for part, its in fork_parts(behind[0], row, "-" * len(row))]

    def rules_left(self):
        return [rule for number, rule in enumerate(self.rules) if number not in self.struck]


# Letters are laid in at the open spots in rows apart, told as tuples (house,
# door, row).
class Thinner:
    def __init__(self, net):
        self.net = net
        self.sieves = {}
        for spot in net_spots(net):
            self.sieves[spot] = Sieve(net[0], house_named(net, spot[0]), spot[1])
        # For what is laid in the end and the rules met, and for each rule what
        # meets it.
        self.walked = {}
        self.meeting = {}
        self.needed = {}
        crowd = Crowd(net, self.sieves, True)
        for spot in net_open(net):
            for row, end, met in crowd.row_classes(spot, "-" * layout_width(net[0])):
                self.put_walk(spot + (row,), end, met)

    def put_walk(self, laid, end, met):
        self.walked[laid] = (end, met)
        for rule in met:
            self.meeting.setdefault(rule, {})[laid] = True

    def take_walk(self, laid):
        for rule in self.walked.pop(laid)[1]:
            self.meeting[rule].pop(laid)

    # What is struck may make another rule needless that was needed ahead of it.
    def thin(self):
        rules = self.rules_open()
        while rules != []:
            for rule in rules:
                self.try_rule(rule)
            rules = self.rules_open()

    def rules_open(self):
        rules = []
        for spot in self.sieves:
            count = len(self.sieves[spot].rules)
            rules.extend([spot + (number,) for number in range(count - 1, -1, -1)])
        return [rule for rule in rules if not self.is_settled(rule)]

    def is_struck(self, rule):
        return rule[2] in self.sieves[rule[:2]].struck

    # A rule stays needed as long as those stand that its letter meets without it.
    def is_settled(self, rule):
        if self.is_struck(rule):
            return True
        return rule in self.needed and not any([self.is_struck(other) for other in self.needed[rule]])

    # Strikes the rule where it is needless.
    def try_rule(self, rule):
        sieve = self.sieves[rule[:2]]
        sieve.strike(rule[2])
        crowd = Crowd(self.net, self.sieves, True)
        meeting = list(self.meeting.get(rule, {}))
        anew = []
        for laid in meeting:
            for row, end, met in crowd.row_classes(laid[:2], laid[2]):
                if ends_parted(row, self.walked[laid][0], end) is not None:
                    sieve.put_back(rule[2])
                    self.needed[rule] = met
                    return
                anew.append((laid[:2] + (row,), end, met))
        for laid in meeting:
            self.take_walk(laid)
        for laid, end, met in anew:
            self.put_walk(laid, end, met)

    def net_left(self):
        net = self.net
        for spot in self.sieves:
            net = net_with_rules(net, spot[0], spot[1], self.sieves[spot].rules_left())
        return net_copied(net)
