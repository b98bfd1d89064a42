"""Classes: all letters of a heap at once, row by row, until they end."""

from throng.fields import layout_width
from throng.heaps import heap_apart
from throng.houses import Gate
from throng.nets import check_spot, line_ends
from throng.rows import row_written
from throng.walks import end_by, ring_end


def net_classes(net, house, door, heap):
    check_spot(net, house, door)
    crowd = Crowd(net)
    bare = "-" * layout_width(net[0])
    groups = [Group(row, bare, (house, door), {}) for row in heap_apart(heap)]
    while groups != []:
        # The last one is led on first, so that few are under way at once.
        group = groups.pop()
        groups.extend(crowd.led_further(group))
    return crowd.classes


# Letters that have come the same way: the row of them as they were laid in, the
# over that they wear by now, the spot to which they come, and the steps behind
# them, kept as keys in their order.
class Group:
    def __init__(self, row, worn, spot, steps):
        self.row = row
        self.worn = worn
        self.spot = spot
        self.steps = steps


class Crowd:
    def __init__(self, net):
        self.layout = net[0]
        self.houses = dict(net[1])
        self.ends = line_ends(net)
        self.gates = {}
        self.classes = []

    def gate_at(self, spot):
        if spot not in self.gates:
            self.gates[spot] = Gate(self.layout, self.houses[spot[0]], spot[1])
        return self.gates[spot]

    # The groups into which one falls by its next step, but for those that end.
    def led_further(self, group):
        house = group.spot[0]
        door = group.spot[1]
        step = (house, door, row_written(group.row, group.worn))
        # A group tells ever more places. Where it tells no more than at an
        # earlier step, nothing was parted or written elsewhere since: so if the
        # signs are the same, each of its letters is. And in a ring it can't tell
        # more for ever, so this is met in the end.
        if step in group.steps:
            self.put_class(group.row, ring_end(list(group.steps), step), group.steps)
            return []
        steps = dict(group.steps)
        steps[step] = True
        groups = []
        for part, what in self.gate_at(group.spot).parts_of(group.row, group.worn):
            end = end_by(what, house, door, self.ends)
            if end is None:
                groups.append(Group(part, what[2], self.ends[(house, what[1])], steps))
            else:
                self.put_class(part, end, steps)
        return groups

    def put_class(self, row, end, steps):
        self.classes.append((row, end, sorted(set([step[0] for step in steps]))))
