"""Full rows: the pit keeps its grains and topples too. Their lowest forms, and which of them can be made good."""

from heapstill.nets import need_plain
from heapstill.rows import need_rows
from heapstill.sums import again
from heapstill.tables import opposite
from heapstill.tolls import after, span_list


def with_pit(net):
    need_plain(net)
    # Here the pit is one place more, which gives and takes as all others do; what is the pit then no road leads to.
    return (net[0] + 1, net[1], net[2])


def full_after(net, full, counts):
    return after(with_pit(net), full, counts)


def lowest(net, full):
    whole = with_pit(net)
    need_rows(whole, [full])
    missing = [span - 1 - number for span, number in zip(span_list(net), full)]
    # What a place misses to one less than its span grows where its number falls, so the topplings are turned round.
    counts = opposite(again(net, missing)[1]) + [0]
    return (after(whole, full, counts), counts)


def made_good(net, full):
    told = lowest(net, full)
    return (told[0][net[0]] >= 0, told[0], told[1])
