"""The refusals of rows and heaps that every function with a net and rows has in common."""

from heapstill.errors import NoHeap, NoRow


def need_rows(net, rows):
    for row in rows:
        if len(row) != net[0]:
            raise NoRow("a row has one number for each place of the net, a full row one more")


def need_heaps(net, heaps):
    # All lengths are looked at first: NoRow goes ahead of NoHeap.
    need_rows(net, heaps)
    for heap in heaps:
        if min(heap) < 0:
            raise NoHeap("a heap has no number below 0")
