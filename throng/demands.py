"""Demands: how all letters of a heap, laid in at a spot, are to fare."""

from throng.asks import graph_come
from throng.blends import graph_blend, graph_other
from throng.classes import Crowd
from throng.errors import BadWord
from throng.fields import layout_width
from throng.graphs import graph_least, graph_of
from throng.nets import check_spot, house_named

DEMAND_WORDS = ("all", "none", "past", "calm")


def demand_broken(net, demand):
    check_demand(net, demand)
    return Demand(demand).broken_in(Crowd(net, {}))


def check_demand(net, demand):
    word = demand[0]
    if word not in DEMAND_WORDS:
        raise BadWord(f"no word of a demand: {word!r}")
    check_spot(net, demand[1], demand[2])
    if word != "calm":
        check_spot(net, demand[4][0], demand[4][1])
    if word == "past":
        # Refuses a house that the net has not.
        house_named(net, demand[5])


# A demand is asked of many nets, so its graphs are made once.
class Demand:
    def __init__(self, demand):
        self.word = demand[0]
        self.spot = (demand[1], demand[2])
        self.heap = graph_of(demand[3])
        self.goal = None if self.word == "calm" else demand[4][:2]
        self.wanted = None if self.word == "calm" else graph_of(demand[4][2])
        self.beside = demand[5] if self.word == "past" else None

    # A letter that fares against the demand in the crowd's net, or None.
    def broken_in(self, crowd):
        width = layout_width(crowd.layout)
        classes = crowd.row_classes(self.spot, "-" * width)
        return graph_least(graph_blend(self.heap, self.graph_against(classes), "common"), width)

    def graph_against(self, classes):
        if self.word == "calm":
            return graph_of([row for row, end, met in classes if end[0] == "ring"])
        come = graph_come(classes, self.goal, self.wanted, self.beside)
        return graph_other(come) if self.word == "all" else come
