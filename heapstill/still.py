"""Still heaps, their counts of topplings, and the paper that nothing is less."""

from heapstill.nets import need_plain
from heapstill.rows import need_heaps
from heapstill.tolls import toll_table


def still(net, heap):
    need_heaps(net, [heap])
    tolls = toll_table(net)
    row = [0] * net[0]
    counts = [0] * net[0]
    told = (row, counts)
    top = max(heap)
    # The heap comes in bit by bit, the highest first. Twice the counts of its half are never too many,
    # so each round has only a few topplings left, however many grains there are.
    for shift in range(top.bit_length() - 1, -1, -1):
        row = [2 * rest + (grains >> shift) % 2 for rest, grains in zip(told[0], heap)]
        counts = [2 * count for count in told[1]]
        told = settled(tolls, row, counts)
    return told


def settled(tolls, heap, counts):
    rest = list(heap)
    added = list(counts)
    busy = True
    while busy:
        busy = False
        for place, toll in enumerate(tolls):
            times = rest[place] // (0 - toll[place])
            if times > 0:
                busy = True
                added[place] += times
                rest = [grains + times * gain for grains, gain in zip(rest, toll)]
    return (rest, added)


def least_paper(net, heap):
    need_plain(net)
    told = still(net, heap)
    tolls = toll_table(net)
    left = [place for place, count in enumerate(told[1]) if count > 0]
    paper = []
    # Of the places left, the one whose last toppling came first has got a grain since along each road to the
    # others, so some place is always ready; those ready at once don't hinder one another.
    while left:
        ready = [place for place in left if told[0][place] >= roads_among(tolls[place], place, left)]
        paper.extend(ready)
        left = [place for place in left if place not in ready]
    return paper


def roads_among(toll, place, places):
    return sum([toll[other] for other in places if other != place])
