"""The table of a net, and whether two rows lead to one another by counts of topplings."""

from heapstill.rows import need_rows
from heapstill.tables import opposite, shared_out, turned, unit_row
from heapstill.tolls import toll_table


def net_table(net):
    return [opposite(toll) for toll in toll_table(net)]


def told_alike(net, one, other):
    need_rows(net, [one, other])
    table = net_table(net)
    told = shared_out(table, [x - y for x, y in zip(one, other)])
    if told[1] == 1:
        return ("alike", told[0])
    # The counts are fractions, at this place no whole number. What the place's count comes to is a weighing: whole
    # for each toll, but not for what the second row has more.
    broken = [place for place, top in enumerate(told[0]) if top % told[1] != 0]
    weighing = shared_out(turned(table), unit_row(net[0], broken[0]))
    return ("apart", weighing[0], weighing[1])
