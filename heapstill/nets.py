"""Nets: how one is made or refused, how far its places are from the pit, and whether it is plain."""

from heapstill.errors import NoNet, NotPlain
from heapstill.tolls import span_list, steps

MOST_PLACES = 8
MOST_WAYS = 40
MOST_SPANS = 300


def made_net(many, roads, lanes=None):
    own_roads = [(min(a, b), max(a, b)) for a, b in roads]
    own_lanes = [(a, b) for a, b in lanes or []]
    net = (many, own_roads, own_lanes)
    # The numbers come first: what follows looks places up by them.
    need_numbers(net)
    need_ways(net)
    need_small_spans(net)
    return net


def need_numbers(net):
    many = net[0]
    if many < 1 or many > MOST_PLACES:
        raise NoNet("a net has from 1 to 8 places")
    for a, b in net[1] + net[2]:
        if min(a, b) < 0 or max(a, b) > many:
            raise NoNet("a road or lane has a number that is neither a place nor the pit")
        if a == b:
            raise NoNet("a road or lane has one number twice")
    for a, b in net[2]:
        if a == many:
            raise NoNet("a lane leads from the pit")


def need_ways(net):
    if len(net[1]) + len(net[2]) > MOST_WAYS:
        raise NoNet("a net has at most 40 roads and lanes")
    if None in leads(net[0], net[1], net[2]):
        raise NoNet("a place has no way to the pit")


def need_small_spans(net):
    if is_plain(net):
        return
    spans = 1
    for span in span_list(net):
        spans = spans * span
    if spans > MOST_SPANS:
        raise NoNet("in a net with lanes the spans, multiplied, are at most 300")


def leads(many, roads, lanes):
    far = [None] * many + [0]
    ways = steps(roads, lanes)
    # A shortest way meets no place twice, so none has more than many steps.
    for turn in range(many):
        for a, b in ways:
            if far[a] is None and far[b] == turn:
                far[a] = turn + 1
    return far[:many]


def is_plain(net):
    return len(net[2]) == 0


def need_plain(net):
    if not is_plain(net):
        raise NotPlain("this is told of nets without lanes alone")
