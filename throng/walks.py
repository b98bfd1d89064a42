"""Walks: one letter, house by house, until it ends."""

from throng.errors import Misfit
from throng.fields import layout_width
from throng.houses import house_does
from throng.nets import check_spot, line_ends
from throng.rows import is_letter


def net_walk(net, house, door, letter):
    check_spot(net, house, door)
    if not is_letter(letter, layout_width(net[0])):
        raise Misfit(f"no letter of the net: {letter!r}")
    houses = dict(net[1])
    ends = line_ends(net)
    # Steps are kept as keys, for each is looked up, and their order is the trail's.
    steps = {}
    step = (house, door, letter)
    while step not in steps:
        steps[step] = True
        does = house_does(net[0], houses[step[0]], step[1], step[2])
        end = end_by(does, step[0], step[1], ends)
        if end is not None:
            return (list(steps), end)
        step = ends[(step[0], does[1])] + (does[2],)
    return (list(steps), ring_end(list(steps), step))


# How letters end that come to a house by a door and are treated so there, or
# None where they come to another spot.
def end_by(does, house, door, ends):
    if does[0] == "drop":
        return ("drop", house, door, does[1])
    if does[0] == "lost":
        return ("lost", house, door)
    if (house, does[1]) in ends:
        return None
    return ("out", house, does[1], does[2])


# The step is one of the trail's, come to a second time.
def ring_end(trail, step):
    return ("ring", min([past[0] for past in trail[trail.index(step):]]))


def net_fared(net, house, door, letter):
    return fared_by(net_walk(net, house, door, letter)[1])


def fared_by(end):
    if end[0] == "out":
        return end
    return ("ring",) if end[0] == "ring" else ("lost",)
