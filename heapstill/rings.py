"""The rings that heaps which come again fall into: how many, their lengths, places in them, and all such heaps."""

from heapstill.alike import net_table
from heapstill.errors import NoRow, TooMany
from heapstill.rows import need_rows
from heapstill.smith import ring_tables
from heapstill.sums import again, heap_sum, nought
from heapstill.tables import line_by, measure, turned, unit_row

MOST_HEAPS = 300


def how_many(net):
    return measure(net_table(net))


def middle_entries(middle):
    return [line[at] for at, line in enumerate(middle)]


def ring_lengths(net):
    told = ring_tables(net_table(net))
    return [entry for entry in middle_entries(told[1]) if entry > 1]


def ring_place(net, row):
    need_rows(net, [row])
    told = ring_tables(net_table(net))
    # Right takes each toll to multiples of the middle entries, and only what is made of tolls.
    spots = line_by(row, turned(told[2]))
    return [spot % entry for spot, entry in zip(spots, middle_entries(told[1])) if entry > 1]


def heap_at(net, place):
    told = ring_tables(net_table(net))
    entries = middle_entries(told[1])
    need_place(place, [entry for entry in entries if entry > 1])
    # The entries of 1 stand ahead of all others, each of which they divide.
    spots = [0] * (len(entries) - len(place)) + place
    return again(net, line_by(spots, turned(told[4])))[0]


def need_place(place, lengths):
    if len(place) != len(lengths):
        raise NoRow("a place in the rings has one number for each ring")
    for number, length in zip(place, lengths):
        if number < 0 or number >= length:
            raise NoRow("a place in the rings has numbers from 0 to below the lengths")


def all_again(net):
    if how_many(net) > MOST_HEAPS:
        raise TooMany("more than 300 heaps come again")
    found = [nought(net)]
    known = {tuple(found[0]): True}
    done = 0
    # Grain by grain, the heap that adds nothing comes to each heap that comes again, and to no other.
    while done < len(found):
        for place in range(net[0]):
            heap = heap_sum(net, found[done], unit_row(net[0], place))
            if tuple(heap) not in known:
                known[tuple(heap)] = True
                found.append(heap)
        done += 1
    return sorted(found)
