"""Twins: whether two nets treat all letters alike."""

from throng.classes import Crowd, end_worn
from throng.errors import Unlike
from throng.fields import layout_width
from throng.nets import net_open
from throng.rows import row_edges
from throng.walks import fared_by


def net_parted(one, other):
    check_alike(one, other)
    every = "-" * layout_width(one[0])
    mine = Crowd(one, {})
    its = Crowd(other, {})
    for spot in net_open(one):
        letter = spot_parted(mine, its, spot, every)
        if letter is not None:
            return spot + (letter,)
    return None


def check_alike(one, other):
    if one[0] != other[0]:
        raise Unlike("the layouts are not equal")
    if net_open(one) != net_open(other):
        raise Unlike("the open spots are not the same")


# A letter of the row that fares otherwise in the two nets, or None.
def spot_parted(one, other, spot, row):
    for part, end, met in one.row_classes(spot, row):
        for its_part, its_end, its_met in other.row_classes(spot, part):
            letter = ends_parted(its_part, end, its_end)
            if letter is not None:
                return letter
    return None


def ends_parted(row, one, other):
    for letter in row_edges(row):
        if fared_by(end_worn(one, letter)) != fared_by(end_worn(other, letter)):
            return letter
    return None
