"""Point 12: the paper that nothing is less, held against the point's own words."""

import itertools
import random
import unittest

from heapstill.errors import NoHeap, NoRow, NotPlain
from heapstill.still import least_paper
from tests import samples

GREAT = 10 ** 20


class Paper(unittest.TestCase):
    def hold_against_words(self, net, heap):
        told, counts = samples.still_by_fractions(net, heap)
        paper = least_paper(net, heap)
        self.assertIs(type(paper), list)
        self.assertEqual(sorted(paper), [place for place in range(net[0]) if counts[place] > 0], (net, heap))
        for at, place in enumerate(paper):
            ends = samples.other_ends(net, place)
            roads = sum(ends.count(other) for other in paper[at + 1:])
            self.assertGreaterEqual(told[place], roads, (net, heap, paper))

    def test_by_hand(self):
        self.assertEqual(least_paper(samples.ONE_PLACE, [1]), [0])
        self.assertEqual(least_paper(samples.PATH, [1, 0, 0]), [0])
        self.assertEqual(least_paper(samples.PATH, [0, 0, 2]), [2])

    def test_where_one_order_alone_will_do(self):
        self.assertEqual(least_paper(samples.ALIKE_ROADS, [3, 2]), [1, 0])
        self.assertEqual(least_paper((2, [(0, 1), (0, 1), (0, 2)], []), [3, 0]), [0, 1])

    def test_still_already(self):
        for net in samples.PLAIN_NETS:
            self.assertEqual(least_paper(net, [0] * net[0]), [])
            self.assertEqual(least_paper(net, [span - 1 for span in samples.spans_of(net)]), [])

    def test_every_small_heap_of_some_nets(self):
        for net in [samples.PATH, samples.TRIANGLE, (3, [(0, 1), (0, 1), (1, 2), (1, 2), (1, 2), (2, 3)], [])]:
            for heap in itertools.product(range(7), repeat=3):
                self.hold_against_words(net, list(heap))

    def test_nets_of_all_sizes(self):
        chance = random.Random(120)
        for net in samples.PLAIN_NETS + samples.some_nets(121, 80, 0):
            for size in [3, 12, GREAT]:
                self.hold_against_words(net, [chance.randint(0, size) for place in range(net[0])])

    def test_great_heaps(self):
        for net in samples.PLAIN_NETS:
            self.hold_against_words(net, [GREAT] * net[0])


class Refused(unittest.TestCase):
    def test_a_net_with_lanes(self):
        for net in samples.LANE_NETS:
            with self.assertRaises(NotPlain, msg=net):
                least_paper(net, [0] * net[0])
            with self.assertRaises(NotPlain, msg=net):
                least_paper(net, [9] * net[0])

    def test_a_net_with_lanes_ahead_of_all_else(self):
        for heap in [[], [0, 0], [0, 0, 0, 0], [-1, 0, 0], [-1], [0, 0, 0, -1]]:
            with self.assertRaises(NotPlain, msg=heap):
                least_paper(samples.ROADS_AND_LANES, heap)

    def test_too_long_or_too_short(self):
        for heap in [[], [1], [1, 2], [1, 2, 3, 4], [-1], [0, 0, 0, -1]]:
            with self.assertRaises(NoRow, msg=heap):
                least_paper(samples.PATH, heap)

    def test_a_number_below_0(self):
        for heap in [[-1, 0, 0], [0, -1, 0], [9, 9, -1]]:
            with self.assertRaises(NoHeap, msg=heap):
                least_paper(samples.PATH, heap)
