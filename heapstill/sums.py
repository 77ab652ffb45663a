"""Heaps that come again: the one alike to a row, sums, the one that adds nothing, contraries, rows told many times."""

from heapstill.alike import net_table
from heapstill.rows import need_heaps, need_rows
from heapstill.still import still
from heapstill.tables import opposite, shared_out
from heapstill.tolls import after, span_list


def again(net, row):
    need_rows(net, [row])
    near = near_counts(net, row)
    low = after(net, row, near)
    doubled = still(net, doubled_spans(net))
    # What toppling takes from twice the spans is alike to the row of noughts, and above the span on each place.
    more = [grains - rest for grains, rest in zip(doubled_spans(net), doubled[0])]
    # So often it makes a heap of the row; with once more there are at least as many grains as the span on each place,
    # and so the still heap comes again.
    times_more = max([0] + [0 - grains // gain for grains, gain in zip(low, more)]) + 1
    high = [grains + times_more * gain for grains, gain in zip(low, more)]
    told = still(net, high)
    counts = [x - times_more * y + z for x, y, z in zip(near, doubled[1], told[1])]
    return (told[0], counts)


def near_counts(net, row):
    told = shared_out(net_table(net), row)
    # By the fractions themselves nothing would be left; rounded down they leave less than one toppling of each place.
    return [top // told[1] for top in told[0]]


def doubled_spans(net):
    return [2 * span for span in span_list(net)]


def heap_sum(net, one, other):
    need_heaps(net, [one, other])
    return still(net, [x + y for x, y in zip(one, other)])[0]


def nought(net):
    return again(net, [0] * net[0])[0]


def contrary(net, row):
    return again(net, opposite(row))[0]


def times(net, row, factor):
    return again(net, [factor * number for number in row])[0]
