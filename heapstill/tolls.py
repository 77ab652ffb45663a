"""Spans and tolls of a net's places, and the row behind counts of topplings."""

from heapstill.rows import need_rows


def steps(roads, lanes):
    # A road is two steps, one each way, so that roads and lanes are walked alike from here on.
    there = [(a, b) for a, b in roads]
    back = [(b, a) for a, b in roads]
    return there + back + list(lanes)


def toll_table(net):
    many = net[0]
    table = [[0] * many for place in range(many)]
    for a, b in steps(net[1], net[2]):
        # The pit pays no toll, and what falls to it is gone.
        if a < many:
            table[a][a] -= 1
        if a < many and b < many:
            table[a][b] += 1
    return table


def span_list(net):
    return [0 - toll[place] for place, toll in enumerate(toll_table(net))]


def after(net, row, counts):
    need_rows(net, [row, counts])
    behind = list(row)
    for toll, count in zip(toll_table(net), counts):
        behind = [grains + count * gain for grains, gain in zip(behind, toll)]
    return behind
