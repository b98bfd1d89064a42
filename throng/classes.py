"""Classes: all letters of a heap at once, row by row, until they end."""

from throng.heaps import heap_apart
from throng.houses import Gate
from throng.nets import check_spot, line_ends
from throng.rows import row_before, row_written
from throng.walks import end_by


def net_classes(net, house, door, heap):
    check_spot(net, house, door)
    return Crowd(net, {}).heap_classes((house, door), heap)


# The end of letters on which worn, a row or one letter, was written ahead of it.
def end_worn(end, worn):
    return end[:3] + (row_written(worn, end[3]),) if end[0] == "out" else end


# What becomes of rows of letters in one net. A step is a tuple (house, door,
# row) of letters that come in there; its classes are those of its row, laid in
# there.
class Crowd:
    # Gates are kept by their spots, and may come from a crowd of another net in
    # which these houses are the same. By rules, letters meet the rules that count
    # for them, as tuples (house, door, number), in the place of houses.
    def __init__(self, net, gates, by_rules=False):
        self.layout = net[0]
        self.houses = dict(net[1])
        self.ends = line_ends(net)
        self.gates = gates
        self.by_rules = by_rules
        self.shares = {}
        self.known = {}

    def heap_classes(self, spot, heap):
        classes = []
        for row in heap_apart(heap):
            classes.extend(self.row_classes(spot, row))
        return classes

    # Classes of a step are put together of those of the steps that follow, so
    # these are reckoned first; and each step once, for many come to the same one.
    def row_classes(self, spot, row):
        first = spot + (row,)
        waiting = [first]
        while waiting != []:
            step = waiting[-1]
            if step in self.known:
                waiting.pop()
            elif step not in self.shares:
                self.shares[step] = self.shares_at(step)
                waiting.extend([share[4] for share in self.shares[step] if share[4] is not None])
            elif self.is_in_ring(step):
                self.put_ring(step)
            else:
                self.known[step] = self.classes_at(step)
        return self.known[first]

    def gate_at(self, spot):
        if spot not in self.gates:
            self.gates[spot] = Gate(self.layout, self.houses[spot[0]], spot[1])
        return self.gates[spot]

    # Tuples (part, name, end, over, after): a part of the step's row, what its
    # letters meet there, and their end, or, where that is None, the over that is
    # written on them and the step that follows.
    def shares_at(self, step):
        shares = []
        for part, number, what in self.gate_at(step[:2]).ruled_parts(step[2]):
            name = self.met_by(step, number)
            end = end_by(what, step[0], step[1], self.ends)
            if end is None:
                after = self.ends[(step[0], what[1])] + (row_written(part, what[2]),)
                shares.append((part, name, None, what[2], after))
            else:
                shares.append((part, name, end, None, None))
        return shares

    def met_by(self, step, number):
        return step[:2] + (number,) if self.by_rules else step[0]

    # Rows tell ever more places from step to step. So a step that follows upon
    # itself was not parted on the way: steps of a ring have one share each.
    def step_after(self, step):
        return self.shares[step][0][4]

    # What follows is known once a step is come back to, but in a ring.
    def is_in_ring(self, step):
        after = self.step_after(step)
        return after is not None and after not in self.known

    def put_ring(self, step):
        ring = [step]
        while self.step_after(ring[-1]) != step:
            ring.append(self.step_after(ring[-1]))
        names = sorted(set([self.shares[past][0][1] for past in ring]))
        for past in ring:
            self.known[past] = [(past[2], ("ring", names[0]), names)]

    def classes_at(self, step):
        classes = []
        for part, name, end, over, after in self.shares[step]:
            if after is None:
                classes.append((part, end, [name]))
            else:
                classes.extend([class_before(one, part, over, name) for one in self.known[after]])
        return classes


# The class of those letters of a row that are in a later class once the over is
# written on them; they have met the name ahead of it.
def class_before(later, row, over, name):
    met = later[2] if name in later[2] else sorted(later[2] + [name])
    return (row_before(row, over, later[0]), end_worn(later[1], over), met)
