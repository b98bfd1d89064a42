"""Kinds: letters that no open spot parts, by the ends that they have there."""

from throng.backs import end_shape
from throng.classes import Crowd
from throng.fields import layout_width
from throng.forks import fork_of, fork_parts
from throng.graphs import graph_least, graph_of
from throng.nets import net_open


def net_kinds(net):
    width = layout_width(net[0])
    every = "-" * width
    crowd = Crowd(net, {})
    # Rows apart, each with the ends that its letters have at the spots walked by.
    parts = [(every, ())]
    for spot in net_open(net):
        parts = parts_ended(parts, crowd.row_classes(spot, every))
    heaps = {}
    for row, ends in parts:
        heaps.setdefault(ends, []).append(row)
    return sorted([graph_of(heap) for heap in heaps.values()], key=lambda graph: graph_least(graph, width))


# The classes have all letters, so that each row's are parted by them.
def parts_ended(parts, classes):
    bare = "-" * len(classes[0][0])
    fork = fork_of([row for row, end, met in classes], bare)
    shapes = [(end_shape(end),) for row, end, met in classes]
    told = []
    for row, ends in parts:
        told.extend([(part, ends + shapes[number]) for part, number in fork_parts(fork, row, bare)])
    return told
