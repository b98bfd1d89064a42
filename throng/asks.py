"""Whether a letter of a heap, laid in at a spot, can come to a goal."""

from throng.backs import graph_back
from throng.classes import net_classes
from throng.fields import layout_width
from throng.graphs import graph_least, graph_of
from throng.nets import check_spot, house_named


def can_come(net, house, door, heap, goal, beside=None):
    check_spot(net, house, door)
    check_spot(net, goal[0], goal[1])
    if beside is not None:
        # Refuses a house that the net has not.
        house_named(net, beside)
    classes = net_classes(net, house, door, heap)
    come = graph_come(classes, goal[:2], graph_of(goal[2]), beside)
    letter = graph_least(come, layout_width(net[0]))
    return ("no", classes) if letter is None else ("yes", letter)


# Of classes the letters that come out at the spot as letters of the graph, and
# don't come to the house beside (None: no house beside).
def graph_come(classes, spot, graph, beside):
    some = [one for one in classes if beside not in one[2]]
    return graph_back(some, spot[0], spot[1], graph)
