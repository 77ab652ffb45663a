"""What a full row is worth, and its counterpart."""

from heapstill.debts import lowest, with_pit
from heapstill.errors import TooMany
from heapstill.rows import need_rows
from heapstill.tolls import span_list

MOST_PLACES = 4
MOST_GRAINS = 6


def row_worth(net, full):
    need_rows(with_pit(net), [full])
    if net[0] > MOST_PLACES or sum(full) > MOST_GRAINS:
        raise TooMany("worth is told of nets of at most 4 places and full rows of at most 6 grains")
    worth = -1
    forms = [lowest(net, full)[0]]
    # With each turn all have one grain fewer, so at last they owe.
    while all([form[net[0]] >= 0 for form in forms]):
        worth += 1
        forms = one_less(net, forms)
    return worth


def one_less(net, forms):
    # Rows that are alike stay so where the same grain is taken, so one lowest form stands for all of them.
    found = {}
    for form in forms:
        for at in range(len(form)):
            rest = list(form)
            rest[at] -= 1
            found[tuple(lowest(net, rest)[0])] = True
    return list(found)


def counterpart(net, full):
    whole = with_pit(net)
    need_rows(whole, [full])
    return [span - 2 - number for span, number in zip(span_list(whole), full)]
