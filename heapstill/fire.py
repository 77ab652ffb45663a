"""Fire from the pit: in which round each place burns, and whether a heap comes again."""

from heapstill.nets import need_plain
from heapstill.rows import need_heaps
from heapstill.still import roads_among
from heapstill.tolls import span_list, toll_table


def fire(net, heap):
    need_plain(net)
    need_heaps(net, [heap])
    tolls = toll_table(net)
    rounds = [None] * net[0]
    cold = list(range(net[0]))
    # A round in which nothing catches is followed by such alone, so there are at most as many as places.
    for turn in range(1, net[0] + 1):
        caught = [place for place in cold if heap[place] >= roads_among(tolls[place], place, cold)]
        for place in caught:
            rounds[place] = turn
        cold = [place for place in cold if place not in caught]
    return rounds


def comes_again(net, heap):
    rounds = fire(net, heap)
    is_still = all([grains < span for grains, span in zip(heap, span_list(net))])
    return is_still and None not in rounds
