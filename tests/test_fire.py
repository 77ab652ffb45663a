"""Points 13 and 14, and of point 3 what it says of fire: rounds, and which heaps come again in a plain net."""

import itertools
import random
import unittest

from heapstill.errors import NoHeap, NoRow, NotPlain
from heapstill.fire import comes_again, fire
from tests import samples

HUGE = 10 ** 299


def some_heaps(seed, nets):
    chance = random.Random(seed)
    pairs = []
    for net in nets:
        for most in [1, 2, 3, 9]:
            pairs.append((net, [chance.randint(0, most) for place in range(net[0])]))
        pairs.append((net, [chance.randint(0, span) for span in samples.spans_of(net)]))
        pairs.append((net, [chance.randrange(span) for span in samples.spans_of(net)]))
    return pairs


class Rounds(unittest.TestCase):
    def test_all_over(self):
        self.assertEqual(fire(samples.ONE_PLACE, [0]), [1])
        self.assertEqual(fire(samples.STAR, [0, 0, 0, 0]), [1, 1, 1, 1])
        self.assertEqual(fire(samples.PATH, [0, 1, 1]), [3, 2, 1])
        self.assertEqual(fire(samples.TRIANGLE, [2, 1, 1]), [1, 2, 2])
        self.assertEqual(fire(samples.TRIANGLE, [2, 0, 1]), [1, 3, 2])
        self.assertEqual(fire(samples.ALIKE_ROADS, [0, 3]), [2, 1])

    def test_in_part(self):
        self.assertEqual(fire(samples.PATH, [0, 0, 1]), [None, None, 1])
        self.assertEqual(fire(samples.TRIANGLE, [2, 0, 0]), [1, None, None])
        self.assertEqual(fire((3, [(0, 3), (1, 2), (1, 2), (2, 3)], []), [0, 1, 1]), [1, None, None])
        self.assertEqual(fire((3, [(0, 3), (1, 2), (1, 2), (2, 3)], []), [0, 2, 0]), [1, 1, 2])

    def test_not_at_all(self):
        self.assertEqual(fire(samples.PATH, [0, 0, 0]), [None, None, None])
        self.assertEqual(fire(samples.PATH, [0, 1, 0]), [None, None, None])
        self.assertEqual(fire(samples.TRIANGLE, [1, 1, 1]), [None, None, None])
        self.assertEqual(fire(samples.ALIKE_ROADS, [2, 2]), [None, None])

    def test_a_heap_that_is_not_still_burns_too(self):
        self.assertEqual(fire(samples.PATH, [9, 0, 0]), [1, None, None])
        self.assertEqual(fire(samples.PATH, [0, HUGE, 0]), [2, 1, 2])
        self.assertEqual(fire(samples.PATH, [HUGE, HUGE, HUGE]), [1, 1, 1])

    def test_one_round_for_each_place(self):
        roads = [(place, place + 1) for place in range(8)]
        self.assertEqual(fire((8, roads, []), [0] + [1] * 7), [8, 7, 6, 5, 4, 3, 2, 1])

    def test_every_small_heap_of_some_nets_against_the_words(self):
        for net in samples.SMALL_NETS:
            for heap in itertools.product(range(5), repeat=net[0]):
                self.assertEqual(fire(net, list(heap)), samples.rounds_by_words(net, heap), (net, heap))

    def test_nets_of_all_sizes_against_the_words(self):
        kinds = []
        for net, heap in some_heaps(130, samples.PLAIN_NETS + samples.some_nets(131, 100, 0)):
            rounds = fire(net, heap)
            self.assertEqual(rounds, samples.rounds_by_words(net, heap), (net, heap))
            kinds.append((None in rounds, 1 in rounds))
        self.assertEqual(set(kinds), {(False, True), (True, True), (True, False)})

    def test_kinds(self):
        told = fire(samples.PATH, [0, 0, 1])
        self.assertIs(type(told), list)
        self.assertEqual([type(each) for each in told], [type(None), type(None), int])


class WhatRoundsSay(unittest.TestCase):
    """Point 14."""

    def hold_grains(self, net, heap):
        rounds = fire(net, heap)

        def from_round(turn, place):
            return samples.roads_to(net, place, [other for other in range(net[0])
                                                 if rounds[other] is None or rounds[other] >= turn])
        for place, turn in enumerate(rounds):
            if turn is None:
                cold = [other for other in range(net[0]) if rounds[other] is None]
                self.assertLess(heap[place], samples.roads_to(net, place, cold), (net, heap))
            else:
                self.assertGreaterEqual(heap[place], from_round(turn, place), (net, heap))
                if turn > 1:
                    self.assertLess(heap[place], from_round(turn - 1, place), (net, heap))

    def hold_grains_from_the_pit(self, net, heap):
        rounds = fire(net, heap)
        more = [grains + samples.roads_to(net, place, [net[0]]) for place, grains in enumerate(heap)]
        counts = samples.toppled_one_by_one(net, more, min)[1]
        self.assertEqual(counts, [0 if turn is None else 1 for turn in rounds], (net, heap))

    def test_small_nets(self):
        for net in samples.SMALL_NETS:
            for heap in itertools.product(range(4), repeat=net[0]):
                self.hold_grains(net, list(heap))
            for heap in samples.still_heaps(net):
                self.hold_grains_from_the_pit(net, heap)

    def test_nets_of_all_sizes(self):
        for net, heap in some_heaps(140, samples.PLAIN_NETS + samples.some_nets(141, 100, 0)):
            self.hold_grains(net, heap)
            if not samples.may_topple(net, heap):
                self.hold_grains_from_the_pit(net, heap)


class ComesAgain(unittest.TestCase):
    def test_by_hand(self):
        for net, heap, told in [(samples.ONE_PLACE, [0], True), (samples.ONE_PLACE, [1], False),
                                (samples.PATH, [0, 1, 1], True), (samples.PATH, [0, 0, 1], False),
                                (samples.PATH, [0, 1, 0], False), (samples.PATH, [0, 0, 0], False),
                                (samples.TRIANGLE, [2, 1, 0], True), (samples.TRIANGLE, [2, 0, 0], False),
                                (samples.TRIANGLE, [1, 1, 1], False)]:
            self.assertIs(comes_again(net, heap), told, (net, heap))

    def test_burns_all_over_but_is_not_still(self):
        for net in samples.PLAIN_NETS:
            spans = samples.spans_of(net)
            for place in range(net[0]):
                heap = [span - 1 for span in spans]
                self.assertIs(comes_again(net, heap), True, (net, heap))
                heap[place] += 1
                self.assertNotIn(None, fire(net, heap))
                self.assertIs(comes_again(net, heap), False, (net, heap))
                heap[place] = HUGE
                self.assertIs(comes_again(net, heap), False, (net, heap))

    def test_every_still_heap_of_small_nets_against_what_grains_lead_to(self):
        """Point 19's meaning: what can be reached again and again by adding grains and toppling."""
        for net in samples.SMALL_NETS:
            reached = samples.heaps_that_come_again(net)
            for heap in samples.still_heaps(net):
                self.assertIs(comes_again(net, heap), heap in reached, (net, heap))

    def test_any_heap_against_the_words(self):
        for net, heap in some_heaps(132, samples.PLAIN_NETS + samples.some_nets(133, 100, 0)):
            words = None not in samples.rounds_by_words(net, heap) and not samples.may_topple(net, heap)
            self.assertIs(comes_again(net, heap), words, (net, heap))

    def test_barred_by_a_stretch_of_places(self):
        """Point 3: where a still heap does not come again, some places have fewer grains than roads among them."""
        for net in samples.SMALL_NETS:
            places = range(net[0])
            stretches = [some for size in places for some in itertools.combinations(places, size + 1)]
            for heap in samples.still_heaps(net):
                bars = [some for some in stretches
                        if all(heap[place] < samples.roads_to(net, place, some) for place in some)]
                self.assertIs(comes_again(net, heap), not bars, (net, heap))


class Refused(unittest.TestCase):
    def refuse(self, refusal, net, heap):
        for function in [fire, comes_again]:
            with self.assertRaises(refusal, msg=(function, net, heap)):
                function(net, heap)

    def test_a_net_with_lanes(self):
        for net in samples.LANE_NETS:
            self.refuse(NotPlain, net, [0] * net[0])
            self.refuse(NotPlain, net, [9] * net[0])

    def test_a_net_with_lanes_ahead_of_all_else(self):
        for heap in [[], [0, 0], [0, 0, 0, 0], [-1, 0, 0], [-1], [0, 0, 0, -1]]:
            self.refuse(NotPlain, samples.ROADS_AND_LANES, heap)

    def test_too_long_or_too_short(self):
        for heap in [[], [1], [1, 2], [1, 2, 3, 4], [-1], [0, 0, 0, -1]]:
            self.refuse(NoRow, samples.PATH, heap)

    def test_a_number_below_0(self):
        for heap in [[-1, 0, 0], [0, -1, 0], [9, 9, -1], [-HUGE, HUGE, HUGE]]:
            self.refuse(NoHeap, samples.PATH, heap)
