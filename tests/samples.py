"""Nets, heaps and slow reckonings by the document's words, for the tests to hold the program against."""

import itertools
import random
from fractions import Fraction

ONE_PLACE = (1, [(0, 1)], [])
ONE_PLACE_THREE_ROADS = (1, [(0, 1), (0, 1), (0, 1)], [])
PATH = (3, [(0, 1), (1, 2), (2, 3)], [])
TRIANGLE = (3, [(0, 1), (0, 2), (1, 2), (0, 3)], [])
ALIKE_ROADS = (2, [(0, 1), (0, 1), (0, 1), (1, 2), (1, 2)], [])
STAR = (4, [(0, 4), (1, 4), (2, 4), (3, 4)], [])
GRID = (8, [(0, 1), (1, 2), (2, 3), (4, 5), (5, 6), (6, 7), (0, 4), (1, 5), (2, 6), (3, 7), (0, 8), (7, 8), (7, 8)], [])
FAR_END = (8, [(0, 1)] * 33 + [(place, place + 1) for place in range(1, 8)], [])
ALL_TO_ALL = (8, list(itertools.combinations(range(9), 2)), [])
FORTY_ROADS = (8, [(place, place + 1) for place in range(8)] * 5, [])
PLAIN_NETS = [ONE_PLACE, ONE_PLACE_THREE_ROADS, PATH, TRIANGLE, ALIKE_ROADS, STAR, GRID, FAR_END, ALL_TO_ALL,
              FORTY_ROADS]

ONE_LANE = (1, [], [(0, 1)])
LANES_ALONE = (3, [], [(0, 1), (1, 2), (2, 0), (2, 3)])
ROADS_AND_LANES = (3, [(0, 1), (1, 3)], [(2, 0), (2, 0), (1, 2)])
ALIKE_LANES = (2, [(0, 1)], [(0, 1), (0, 1), (1, 2), (1, 2), (1, 2)])
UPSTREAM = (2, [], [(0, 1), (0, 1), (1, 2)])
COMES_BACK = (8, [], [(place, place + 1) for place in range(8)] + [(place, 0) for place in range(1, 8)] + [(0, 1)])
GOES_BACK = (8, [], [(0, 8)] + [(place, place - 1) for place in range(1, 8)] + [(place, 7) for place in range(7)])
LANE_NETS = [ONE_LANE, LANES_ALONE, ROADS_AND_LANES, ALIKE_LANES, UPSTREAM, COMES_BACK, GOES_BACK]

ALL_NETS = PLAIN_NETS + LANE_NETS


def other_ends(net, place):
    """The other end of each road that the place stands in and of each lane that leads from it."""
    ends = []
    for a, b in net[1]:
        if a == place:
            ends.append(b)
        if b == place:
            ends.append(a)
    for a, b in net[2]:
        if a == place:
            ends.append(b)
    return ends


def span_of(net, place):
    return len(other_ends(net, place))


def spans_of(net):
    return [span_of(net, place) for place in range(net[0])]


def toll_of(net, place):
    ends = other_ends(net, place)
    return [-len(ends) if other == place else ends.count(other) for other in range(net[0])]


def row_behind(net, row, counts):
    behind = list(row)
    for place, count in enumerate(counts):
        for other, gain in enumerate(toll_of(net, place)):
            behind[other] += count * gain
    return behind


def may_topple(net, heap):
    return [place for place in range(net[0]) if heap[place] >= span_of(net, place)]


def toppled_one_by_one(net, heap, pick, counts=None):
    """The still heap and the counts when pick chooses, again and again, one of the places that may topple."""
    ends = [other_ends(net, place) for place in range(net[0])]
    heap = list(heap)
    counts = list(counts or [0] * net[0])
    while True:
        ready = [place for place in range(net[0]) if heap[place] >= len(ends[place])]
        if not ready:
            return heap, counts
        place = pick(ready)
        heap[place] -= len(ends[place])
        for end in ends[place]:
            if end < net[0]:
                heap[end] += 1
        counts[place] += 1


def solved(net, row):
    """The fractions c with row = sum over the places of c by the toll taken from 0."""
    many = net[0]
    lines = [[Fraction(-toll_of(net, j)[i]) for j in range(many)] + [Fraction(row[i])] for i in range(many)]
    for i in range(many):
        swap = next(k for k in range(i, many) if lines[k][i] != 0)
        lines[i], lines[swap] = lines[swap], lines[i]
        lines[i] = [entry / lines[i][i] for entry in lines[i]]
        for k in range(many):
            if k != i:
                lines[k] = [x - lines[k][i] * y for x, y in zip(lines[k], lines[i])]
    return [line[many] for line in lines]


def still_by_fractions(net, heap):
    """The still heap of a heap of any size, in another way than by halves.

    Counts that leave every place below its span are nowhere less than the fractions that leave span - 1 on each
    place; from these, rounded up, every toppling of a place that may is one that is needed.
    """
    surplus = [grains - span + 1 for grains, span in zip(heap, spans_of(net))]
    counts = [max(0, -((-c.numerator) // c.denominator)) for c in solved(net, surplus)]
    return toppled_one_by_one(net, row_behind(net, heap, counts), min, counts)


def steps_to_pit(many, roads, lanes):
    """For each place the least number of steps to the pit, by growing the places that reach it."""
    reached = {many: 0}
    grown = True
    while grown:
        near = dict(reached)
        for a, b in list(roads) + [(b, a) for a, b in roads] + list(lanes):
            if b in reached and a not in reached:
                near[a] = min(near.get(a, reached[b] + 1), reached[b] + 1)
        grown = len(near) > len(reached)
        reached = near
    return [reached.get(place) for place in range(many)]


def spans_multiplied(net):
    product = 1
    for span in spans_of(net):
        product *= span
    return product


def some_ways(chance, many, most_roads, most_lanes):
    roads = [tuple(sorted(chance.sample(range(many + 1), 2))) for turn in range(chance.randint(0, most_roads))]
    lanes = []
    for turn in range(chance.randint(0, most_lanes)):
        a = chance.randrange(many)
        lanes.append((a, chance.choice([b for b in range(many + 1) if b != a])))
    return roads, lanes


def some_nets(seed, how_many, most_lanes, most_places=8):
    """Nets of all sizes, always the same ones for a seed."""
    chance = random.Random(seed)
    nets = []
    while len(nets) < how_many:
        many = chance.randint(1, most_places)
        roads, lanes = some_ways(chance, many, 3 * many if most_lanes == 0 else many, most_lanes)
        net = (many, roads, lanes)
        if None in steps_to_pit(many, roads, lanes) or len(roads) + len(lanes) > 40:
            continue
        if lanes and spans_multiplied(net) > 300:
            continue
        nets.append(net)
    return nets


def still_heaps(net):
    return [list(heap) for heap in itertools.product(*[range(span) for span in spans_of(net)])]


def roads_to(net, place, others):
    """How many roads the place has to those others, pit or places."""
    return sum(other_ends(net, place).count(other) for other in others)


def rounds_by_words(net, heap):
    """Point 13, round by round: who burns is written down first, then who burns next is looked for."""
    rounds = [None] * net[0]
    turn = 0
    while True:
        turn += 1
        cold = [place for place in range(net[0]) if rounds[place] is None]
        caught = [place for place in cold if heap[place] >= roads_to(net, place, cold)]
        if not caught:
            return rounds
        for place in caught:
            rounds[place] = turn


def measure_by_sum(table):
    """The measure by the sum that point 15 tells; what is left of the columns is summed up once alone."""
    known = {}

    def of_columns(row, columns):
        if len(columns) == 1:
            return table[row][columns[0]]
        if columns not in known:
            known[columns] = sum((-1) ** j * table[row][column] * of_columns(row + 1, columns[:j] + columns[j + 1:])
                                 for j, column in enumerate(columns) if table[row][column])
        return known[columns]

    return of_columns(0, tuple(range(len(table))))


def product_by_words(one, other):
    size = len(one)
    table = [[0] * size for i in range(size)]
    for i, j, k in itertools.product(range(size), repeat=3):
        table[i][j] += one[i][k] * other[k][j]
    return table


def ones(size):
    return [[int(i == j) for j in range(size)] for i in range(size)]


def some_table(chance, size, most):
    return [[chance.randint(-most, most) for j in range(size)] for i in range(size)]


def with_lines_mixed(chance, table, most):
    """Rows added to rows and columns to columns, till the next such step would bring a number beyond most."""
    size = len(table)
    while size > 1:
        i, j = chance.sample(range(size), 2)
        times = chance.choice([-3, -2, -1, 1, 2, 3])
        turned = [list(line) for line in zip(*table)] if chance.random() < 0.5 else [list(line) for line in table]
        turned[i] = [x + times * y for x, y in zip(turned[i], turned[j])]
        if max(abs(x) for line in turned for x in line) > most:
            break
        table = turned
    return table


def heaps_that_come_again(net):
    """All still heaps of heaps with at least span - 1 grains on each place, sorted.

    In whatever order places topple, such a heap comes to the same; so it is enough to begin with span - 1 on each
    place and to add grain by grain.
    """
    waiting = [tuple(span - 1 for span in spans_of(net))]
    found = set(waiting)
    while waiting:
        heap = waiting.pop()
        for place in range(net[0]):
            more = list(heap)
            more[place] += 1
            reached = tuple(toppled_one_by_one(net, more, min)[0])
            if reached not in found:
                found.add(reached)
                waiting.append(reached)
    return sorted(list(heap) for heap in found)


def comes_again_by_words(net, heap):
    """Point 13 for plain nets; for the others, of which each has at most 300 still heaps, point 19."""
    if net[2]:
        return heap in heaps_that_come_again(net)
    return not may_topple(net, heap) and None not in rounds_by_words(net, heap)


def all_trees_by_words(net):
    """All choices of as many roads as places along which each place has a way to the pit."""
    choices = itertools.combinations(range(len(net[1])), net[0])
    return [list(tree) for tree in choices if None not in steps_to_pit(net[0], [net[1][number] for number in tree], [])]


THREE_HUNDRED = (2, [(0, 2)] * 15 + [(1, 2)] * 20, [])
THREE_HUNDRED_OF_THREE = (3, [(0, 3), (1, 3), (2, 3)] * 5 + [(1, 3)] + [(2, 3)] * 5, [])
THREE_HUNDRED_BY_LANES = (2, [], [(0, 2)] * 15 + [(1, 2)] * 20)
THREE_HUNDRED_AND_ONE = (2, [(0, 2)] * 7 + [(1, 2)] * 28 + [(0, 1)] * 3, [])

SMALL_NETS = [ONE_PLACE, ONE_PLACE_THREE_ROADS, PATH, TRIANGLE, ALIKE_ROADS, STAR,
              (3, [(0, 1), (0, 1), (1, 2), (1, 2), (1, 2), (2, 3)], []),
              (3, [(0, 1), (0, 3), (0, 1), (1, 2), (0, 3), (1, 2), (2, 3)], []),
              (4, [(0, 1), (1, 2), (2, 3), (0, 3), (0, 2), (3, 4), (1, 4)], []),
              (4, [(0, 1), (0, 2), (0, 3), (0, 4), (1, 2), (1, 3), (1, 4), (2, 3), (2, 4), (3, 4)], []),
              (2, [(0, 2), (0, 2), (1, 2), (1, 2)], [])]
SMALL_LANE_NETS = LANE_NETS + [(2, [], [(0, 2), (0, 2), (1, 2), (1, 2)]),
                               (3, [(0, 1), (1, 2)], [(0, 3), (0, 3), (1, 3), (2, 0), (2, 3), (2, 3)]),
                               (4, [(0, 1), (2, 4)], [(0, 2), (1, 3), (1, 3), (3, 4), (3, 0), (2, 1), (0, 4)])]


def full_spans(net):
    """The spans of all places and, last, how many roads the pit has."""
    return spans_of(net) + [span_of(net, net[0])]


def full_toppled(net, full, spots):
    """Point 27: the spots, places or the pit, topple one by one, in their order."""
    row = list(full)
    for spot in spots:
        for end in other_ends(net, spot):
            row[spot] -= 1
            row[end] += 1
    return row


def full_behind(net, full, counts):
    """Point 27, road by road: what each end gives the other as often as it topples."""
    row = list(full)
    for a, b in net[1]:
        row[a] += counts[b] - counts[a]
        row[b] += counts[a] - counts[b]
    return row


def shares(total, spots):
    """All lists of so many numbers from 0 on that come to the total."""
    if spots == 1:
        return [[total]]
    return [[first] + rest for first in range(total + 1) for rest in shares(total - first, spots - 1)]


class Debts:
    """Points 29 and 30 by their words, for one plain net: what is alike is told by fractions, all grains are tried."""

    def __init__(self, net):
        self.net = net
        units = [[int(place == at) for place in range(net[0])] for at in range(net[0])]
        # What a grain on each place is as fractions of tolls; one in the pit has no part in it.
        self.parts = [solved(net, unit) for unit in units] + [[Fraction(0)] * net[0]]
        self.good = {}
        self.known = {}

    def kind_of(self, full):
        """Two full rows are alike just where this is the same: all grains, and what is left of the fractions."""
        sums = [sum(number * part[at] for number, part in zip(full, self.parts)) for at in range(self.net[0])]
        return (sum(full), tuple(number % 1 for number in sums))

    def can_be_made_good(self, full):
        total = sum(full)
        if total < 0:
            return False
        if total not in self.good:
            self.good[total] = {self.kind_of(row) for row in shares(total, self.net[0] + 1)}
        return self.kind_of(full) in self.good[total]

    def all_can(self, full, taken):
        rows = shares(taken, self.net[0] + 1)
        return all(self.can_be_made_good([x - y for x, y in zip(full, row)]) for row in rows)

    def worth(self, full):
        kind = self.kind_of(full)
        if kind not in self.known:
            self.known[kind] = -1
            while self.all_can(full, self.known[kind] + 1):
                self.known[kind] += 1
        return self.known[kind]
