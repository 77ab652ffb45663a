"""Points 3, 9 and 10: the still heap and its counts, whatever the order, however many grains."""

import itertools
import random
import unittest

from heapstill.errors import NoHeap, NoRow
from heapstill.still import still
from tests import samples

GREAT = 10 ** 20


def orders(seed):
    return [min, max, random.Random(seed).choice]


class SmallHeaps(unittest.TestCase):
    def hold_against_orders(self, net, heap):
        told = still(net, heap)
        for pick in orders(9):
            self.assertEqual(told, samples.toppled_one_by_one(net, heap, pick), (net, heap))

    def test_by_hand(self):
        self.assertEqual(still(samples.ONE_PLACE, [5]), ([0], [5]))
        self.assertEqual(still(samples.ONE_PLACE_THREE_ROADS, [11]), ([2], [3]))
        self.assertEqual(still(samples.PATH, [0, 0, 2]), ([0, 1, 0], [0, 0, 1]))
        self.assertEqual(still(samples.PATH, [1, 0, 0]), ([0, 1, 0], [1, 0, 0]))
        self.assertEqual(still(samples.PATH, [1, 1, 1]), ([0, 1, 1], [3, 2, 1]))
        self.assertEqual(still(samples.ALIKE_LANES, [3, 1]), ([1, 0], [1, 1]))

    def test_every_small_heap_of_some_nets(self):
        for net in [samples.PATH, samples.TRIANGLE, samples.LANES_ALONE, samples.ROADS_AND_LANES]:
            for heap in itertools.product(range(5), repeat=3):
                self.hold_against_orders(net, list(heap))

    def test_a_place_with_just_its_span_topples(self):
        for net in samples.ALL_NETS:
            for place, span in enumerate(samples.spans_of(net)):
                heap = [0] * net[0]
                heap[place] = span
                self.assertGreater(still(net, heap)[1][place], 0, (net, place))
                self.hold_against_orders(net, heap)

    def test_nets_of_all_sizes(self):
        chance = random.Random(90)
        for net in samples.ALL_NETS + samples.some_nets(91, 60, 0) + samples.some_nets(92, 60, 9):
            self.hold_against_orders(net, [chance.randint(0, 9) for place in range(net[0])])

    def test_the_heap_told_is_the_one_behind_the_counts(self):
        chance = random.Random(93)
        for net in samples.ALL_NETS + samples.some_nets(94, 40, 0) + samples.some_nets(95, 40, 9):
            heap = [chance.randint(0, 10 ** chance.randint(1, 20)) for place in range(net[0])]
            told, counts = still(net, heap)
            self.assertEqual(told, samples.row_behind(net, heap, counts), (net, heap))
            self.assertEqual(samples.may_topple(net, told), [], (net, heap))
            self.assertGreaterEqual(min(told + counts), 0, (net, heap))

    def test_no_counts_that_leave_it_still_are_less_anywhere(self):
        chance = random.Random(96)
        for net in samples.some_nets(97, 12, 0, 3) + samples.some_nets(98, 12, 5, 3):
            heap = [chance.randint(0, 4) for place in range(net[0])]
            counts = still(net, heap)[1]
            for other in itertools.product(range(max(counts) + 2), repeat=net[0]):
                if not samples.may_topple(net, samples.row_behind(net, heap, other)):
                    self.assertTrue(all(x >= c for x, c in zip(other, counts)), (net, heap, other))

    def test_kinds(self):
        told = still(samples.PATH, [4, 4, 4])
        self.assertIs(type(told), tuple)
        self.assertEqual([type(part) for part in told], [list, list])
        self.assertEqual([type(number) for number in told[0] + told[1]], [int] * 6)


class StillAlready(unittest.TestCase):
    def test_heaps_just_below_the_spans(self):
        for net in samples.ALL_NETS:
            heap = [span - 1 for span in samples.spans_of(net)]
            self.assertEqual(still(net, heap), (heap, [0] * net[0]))

    def test_no_grains(self):
        for net in samples.ALL_NETS:
            self.assertEqual(still(net, [0] * net[0]), ([0] * net[0], [0] * net[0]))

    def test_what_is_told_is_still(self):
        for net in samples.ALL_NETS:
            told = still(net, [11 + place for place in range(net[0])])[0]
            self.assertEqual(still(net, told), (told, [0] * net[0]))


class GreatHeaps(unittest.TestCase):
    def hold_against_fractions(self, net, heap):
        self.assertEqual(still(net, heap), samples.still_by_fractions(net, heap), (net, heap))

    def test_by_hand(self):
        self.assertEqual(still(samples.ONE_PLACE, [GREAT]), ([0], [GREAT]))
        self.assertEqual(still(samples.ONE_PLACE_THREE_ROADS, [GREAT]), ([1], [GREAT // 3]))
        self.assertEqual(still(samples.STAR, [GREAT, 0, GREAT - 1, 1]), ([0] * 4, [GREAT, 0, GREAT - 1, 1]))
        self.assertEqual(still(samples.UPSTREAM, [GREAT, 0]), ([0, 0], [GREAT // 2, GREAT]))
        self.assertEqual(still(samples.UPSTREAM, [1, GREAT]), ([1, 0], [0, GREAT]))

    def test_the_same_on_each_place(self):
        for net in samples.ALL_NETS:
            for grains in [GREAT, GREAT - 1, 10 ** 19 + 3, 2 ** 66, 2 ** 66 - 1]:
                self.hold_against_fractions(net, [grains] * net[0])

    def test_on_one_place_alone(self):
        for net in samples.ALL_NETS:
            for place in range(net[0]):
                heap = [0] * net[0]
                heap[place] = GREAT
                self.hold_against_fractions(net, heap)

    def test_unlike_numbers(self):
        chance = random.Random(100)
        for net in samples.ALL_NETS + samples.some_nets(101, 60, 0) + samples.some_nets(102, 60, 9):
            heap = [chance.randint(0, 10 ** chance.randint(0, 20)) for place in range(net[0])]
            self.hold_against_fractions(net, heap)


class Refused(unittest.TestCase):
    def test_too_long_or_too_short(self):
        for net in [samples.PATH, samples.ROADS_AND_LANES]:
            for heap in [[], [1], [1, 2], [1, 2, 3, 4], [0] * 8]:
                with self.assertRaises(NoRow, msg=heap):
                    still(net, heap)

    def test_a_number_below_0(self):
        for net in [samples.PATH, samples.ROADS_AND_LANES]:
            for heap in [[-1, 0, 0], [0, -1, 0], [0, 0, -1], [9, 9, -1], [-GREAT, 5, 5], [-1, -1, -1]]:
                with self.assertRaises(NoHeap, msg=heap):
                    still(net, heap)

    def test_both_at_once(self):
        for net in [samples.PATH, samples.ROADS_AND_LANES]:
            for heap in [[-1], [-1, 0], [0, 0, 0, -1], [-1, 0, 0, 0]]:
                with self.assertRaises(NoRow, msg=heap):
                    still(net, heap)
