"""Ways of toppling, and how a heap is run by a way till it is still.

The plain way tells the first place that may topple, the way together all of them, the picked way one by its next pick.
"""

from heapstill.errors import TooMany
from heapstill.rows import need_heaps
from heapstill.tolls import after, span_list

MOST_TOPPLINGS = 2000


def ready_places(net, heap):
    need_heaps(net, [heap])
    return [place for place, span in enumerate(span_list(net)) if heap[place] >= span]


class Way:
    def chosen(self, net, heap):
        return ready_places(net, heap)[:1]


class Together(Way):
    def chosen(self, net, heap):
        return ready_places(net, heap)


class Picked(Way):
    def __init__(self, picks):
        self.picks = list(picks)
        self.used = 0

    def chosen(self, net, heap):
        ready = ready_places(net, heap)
        # An asking where none may topple, or that is refused above, uses no pick.
        if not ready:
            return []
        pick = self.picks[self.used] if self.used < len(self.picks) else 0
        self.used += 1
        return [ready[pick % len(ready)]]


def run(net, heap, way):
    # Ahead of the way, so that a way without refusals of its own is never asked of what is no heap.
    need_heaps(net, [heap])
    rest = list(heap)
    counts = [0] * net[0]
    turns = []
    places = way.chosen(net, rest)
    while places:
        # However a heap is run, its topplings come to the same number, so the limit is the same for every way.
        if sum(counts) + len(places) > MOST_TOPPLINGS:
            raise TooMany("the heap takes more than 2000 topplings")
        moved = [1 if place in places else 0 for place in range(net[0])]
        rest = after(net, rest, moved)
        counts = [count + more for count, more in zip(counts, moved)]
        turns.append(list(places))
        places = way.chosen(net, rest)
    return (rest, counts, turns)
