"""Turns: houses of a net changed one by one, with all demands kept behind each change."""

from throng.classes import Crowd
from throng.demands import Demand
from throng.errors import Unlike
from throng.houses import Gate
from throng.nets import house_named, net_copied


def net_mixed(one, other, names):
    check_changeable(one, other)
    for name in names:
        # Refuses a house that the nets have not.
        house_named(one, name)
    return net_copied(mixed_by(one, other, names))


def check_changeable(one, other):
    if one[0] != other[0]:
        raise Unlike("the layouts are not equal")
    if one[2] != other[2]:
        raise Unlike("the lines are not equal")
    if net_doors(one) != net_doors(other):
        raise Unlike("the houses or their doors are not the same")


def net_doors(net):
    return [(name, house_doors(house)) for name, house in net[1]]


def house_doors(house):
    return [door for door, rules in house[0]]


def mixed_by(one, other, names):
    return (one[0], [its if its[0] in names else mine for mine, its in zip(one[1], other[1])], one[2])


def turn_order(one, other, demands):
    check_changeable(one, other)
    turner = Turner(one, other, demands)
    order = turner.order_behind(())
    return ("no", turner.blocks) if order is None else ("yes", order)


# Names of houses that are changed by then stand as a sorted tuple.
class Turner:
    def __init__(self, one, other, demands):
        self.one = one
        self.other = other
        self.demands = [Demand(demand) for demand in demands]
        self.unlike = [mine[0] for mine, its in zip(one[1], other[1]) if mine != its]
        self.one_gates = net_gates(one)
        self.other_gates = net_gates(other)
        self.judged = {}
        self.blocks = []

    # An order in which all other unlike houses can be changed behind these names,
    # or None; what is in the way then stands in blocks.
    def order_behind(self, names):
        if len(names) == len(self.unlike):
            return []
        for name in [its for its in self.unlike if its not in names]:
            after = tuple(sorted(names + (name,)))
            # Names that were come to ahead have told by now that they lead nowhere.
            is_new = after not in self.judged
            broken = self.broken_by(after)
            if broken is not None:
                self.blocks.append((list(names), name) + broken)
            elif is_new:
                order = self.order_behind(after)
                if order is not None:
                    return [name] + order
        return None

    # The number of a demand that is broken once these houses are changed, and a
    # letter that breaks it, or None.
    def broken_by(self, names):
        if names not in self.judged:
            self.judged[names] = first_broken(self.crowd_of(names), self.demands)
        return self.judged[names]

    def crowd_of(self, names):
        gates = {}
        for spot in self.one_gates:
            gates[spot] = self.other_gates[spot] if spot[0] in names else self.one_gates[spot]
        return Crowd(mixed_by(self.one, self.other, names), gates)


# Each gate is made once, however many mixed nets have it.
def net_gates(net):
    gates = {}
    for name, house in net[1]:
        for door, rules in house[0]:
            gates[(name, door)] = Gate(net[0], house, door)
    return gates


def first_broken(crowd, demands):
    for number, demand in enumerate(demands):
        letter = demand.broken_in(crowd)
        if letter is not None:
            return (number, letter)
    return None
