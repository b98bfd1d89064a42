"""Houses: rules at each door, and behind them ways by the signs of the field "to"."""

from throng.blends import graph_before
from throng.errors import NoDoor
from throng.fields import field_part, field_span, layout_width
from throng.forks import fork_of, fork_parts
from throng.rows import row_written
from throng.rules import is_dropped, rule_first
from throng.ways import door_at, longest_first, way_found, way_row


def gate_rules(house, door):
    for gate, rules in house[0]:
        if gate == door:
            return rules
    raise NoDoor(f"no door {door!r}")


def house_does(layout, house, door, letter):
    rules = gate_rules(house, door)
    number = rule_first(rules, letter)
    if is_dropped(rules, number):
        return ("drop", number)
    sent = row_written(letter, rules[number][2])
    return sent_by(way_found(house[1], field_part(layout, "to", sent)), sent)


def sent_by(door, thing):
    return ("lost",) if door is None else ("sent", door, thing)


def house_shares(layout, house, door, row):
    return Gate(layout, house, door).parts_of(row)


def house_back(layout, house, door, out, graph):
    shares = house_shares(layout, house, door, "-" * layout_width(layout))
    return graph_before([(part, what[2]) for part, what in shares if what[:2] == ("sent", out)], graph)


# The row of the letters whose signs at the field "to" have the way's beginning.
def to_row(layout, way):
    first = field_span(layout, "to")[0]
    return "-" * first + way_row(way, layout_width(layout) - first)


# What a house does by one door, as forks: these are made once, and asked for
# many rows.
class Gate:
    def __init__(self, layout, house, door):
        self.rules = gate_rules(house, door)
        self.ways = longest_first(house[1])
        every = "-" * layout_width(layout)
        self.rules_fork = fork_of([rule[0] for rule in self.rules], every)
        self.ways_fork = fork_of([to_row(layout, way) for way in self.ways], every)

    def parts_of(self, row):
        return [(part, what) for part, number, what in self.ruled_parts(row)]

    # Each part is told with the number of the rule that counts for its letters.
    def ruled_parts(self, row):
        parts = []
        for part, number in fork_parts(self.rules_fork, row, "-" * len(row)):
            parts.extend(self.done_parts(part, number))
        return parts

    # What is done with a row for whose letters that rule counts.
    def done_parts(self, row, number):
        if is_dropped(self.rules, number):
            return [(row, number, ("drop", number))]
        over = self.rules[number][2]
        parts = fork_parts(self.ways_fork, row, over)
        return [(part, number, sent_by(door_at(self.ways, its), over)) for part, its in parts]
