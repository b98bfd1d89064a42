"""The way back in a net, and the picture of a spot: graphs of the letters that end so."""

from throng.blends import graph_before
from throng.classes import Crowd, net_classes
from throng.fields import layout_width
from throng.graphs import graph_of
from throng.nets import check_spot, net_spots


def net_back(net, house, door, graph):
    check_spot(net, house, door)
    every = "-" * layout_width(net[0])
    crowd = Crowd(net, {})
    return [(spot, graph_back(crowd.row_classes(spot, every), house, door, graph)) for spot in net_spots(net)]


# Of classes the letters that come out at the spot as letters of the graph.
def graph_back(classes, house, door, graph):
    return graph_before([(row, end[3]) for row, end, met in classes if end[:3] == ("out", house, door)], graph)


def net_picture(net, house, door):
    return classes_picture(net_classes(net, house, door, ["-" * layout_width(net[0])]))


def classes_picture(classes):
    heaps = {}
    for row, end, met in classes:
        heaps.setdefault(end_shape(end), []).append(row)
    return [(end, graph_of(heaps[end])) for end in sorted(heaps)]


# With its over, an end would tell letters apart that come out at one spot.
def end_shape(end):
    return end[:3] if end[0] == "out" else end
