"""Points 23 to 26: the tree of a heap, the heap of a tree, and all trees of a plain net."""

import itertools
import random
import unittest

from heapstill.errors import NoHeap, NoRow, NotAgain, NoTree, NotPlain, TooMany
from heapstill.trees import all_trees, heap_of, tree_of
from tests import samples

HUGE = 10 ** 299
NETS = samples.SMALL_NETS + samples.some_nets(230, 60, 0, 5)


def roads_at(net, place):
    """(number, other end) of each road of a place, in rising order of numbers."""
    return [(number, b if a == place else a) for number, (a, b) in enumerate(net[1]) if place in (a, b)]


def tree_by_words(net, heap):
    """Point 24."""
    rounds = samples.rounds_by_words(net, heap) + [0]
    tree = []
    for place in range(net[0]):
        turn = rounds[place]
        roads = roads_at(net, place)
        last = [number for number, end in roads if rounds[end] == turn - 1]
        before = [number for number, end in roads if rounds[end] < turn - 1]
        tree.append(last[samples.span_of(net, place) - 1 - len(before) - heap[place]])
    return sorted(tree)


def own_roads(net, tree):
    """For each place its depth and its own road, by a walk from the pit along the tree's roads."""
    depths = {net[0]: 0}
    own = {}
    waiting = [net[0]]
    while waiting:
        near = waiting.pop(0)
        for number in tree:
            if near in net[1][number]:
                far = sum(net[1][number]) - near
                if far not in depths:
                    depths[far] = depths[near] + 1
                    own[far] = number
                    waiting.append(far)
    return depths, own


def heap_by_words(net, tree):
    """Point 25."""
    depths, own = own_roads(net, tree)
    heap = []
    for place in range(net[0]):
        deep = depths[place]
        roads = roads_at(net, place)
        before = [number for number, end in roads if depths[end] < deep - 1]
        lesser = [number for number, end in roads if depths[end] == deep - 1 and number < own[place]]
        heap.append(samples.span_of(net, place) - 1 - len(before) - len(lesser))
    return heap


class TreeOf(unittest.TestCase):
    def test_by_hand(self):
        self.assertEqual(tree_of(samples.ONE_PLACE, [0]), [0])
        self.assertEqual([tree_of(samples.ONE_PLACE_THREE_ROADS, [grains]) for grains in range(3)], [[2], [1], [0]])
        self.assertEqual(tree_of(samples.PATH, [0, 1, 1]), [0, 1, 2])
        self.assertEqual(tree_of(samples.TRIANGLE, [2, 1, 1]), [0, 1, 3])
        self.assertEqual(tree_of(samples.TRIANGLE, [2, 0, 1]), [1, 2, 3])
        self.assertEqual(tree_of(samples.TRIANGLE, [2, 1, 0]), [0, 2, 3])
        self.assertEqual(tree_of(samples.ALIKE_ROADS, [0, 4]), [2, 3])
        self.assertEqual(tree_of(samples.ALIKE_ROADS, [2, 3]), [0, 4])

    def test_every_heap_that_comes_again_in_small_nets(self):
        for net in NETS:
            for heap in samples.heaps_that_come_again(net)[:150]:
                tree = tree_of(net, heap)
                self.assertEqual(tree, tree_by_words(net, heap), (net, heap))
                self.assertEqual(heap_of(net, tree), heap, (net, heap))

    def test_nets_of_all_sizes(self):
        chance = random.Random(231)
        for net in samples.PLAIN_NETS + samples.some_nets(232, 60, 0):
            for turn in range(4):
                heap = [span - 1 + chance.randint(0, 3) for span in samples.spans_of(net)]
                heap = samples.toppled_one_by_one(net, heap, min)[0]
                tree = tree_of(net, heap)
                self.assertEqual(tree, tree_by_words(net, heap), (net, heap))
                self.assertEqual(heap_of(net, tree), heap, (net, heap))

    def test_kinds(self):
        for told in [tree_of(samples.TRIANGLE, [2, 1, 1]), heap_of(samples.TRIANGLE, [0, 1, 3])]:
            self.assertIs(type(told), list)
            self.assertEqual([type(number) for number in told], [int] * 3)


class HeapOf(unittest.TestCase):
    def test_by_hand(self):
        self.assertEqual(heap_of(samples.ONE_PLACE, [0]), [0])
        self.assertEqual([heap_of(samples.ONE_PLACE_THREE_ROADS, [number]) for number in range(3)], [[2], [1], [0]])
        self.assertEqual(heap_of(samples.PATH, [0, 1, 2]), [0, 1, 1])
        self.assertEqual(heap_of(samples.ALIKE_ROADS, [1, 4]), [1, 3])

    def test_every_tree_of_small_nets(self):
        for net in NETS:
            for tree in samples.all_trees_by_words(net)[:150]:
                heap = heap_of(net, tree)
                self.assertEqual(heap, heap_by_words(net, tree), (net, tree))
                self.assertTrue(samples.comes_again_by_words(net, heap), (net, tree))
                self.assertEqual(tree_of(net, heap), tree, (net, tree))

    def test_nets_of_all_sizes(self):
        chance = random.Random(233)
        for net in samples.PLAIN_NETS + samples.some_nets(234, 40, 0):
            tree = []
            joined = {net[0]}
            while len(tree) < net[0]:
                edges = [number for number, (a, b) in enumerate(net[1]) if (a in joined) != (b in joined)]
                tree.append(chance.choice(edges))
                joined |= set(net[1][tree[-1]])
            tree = sorted(tree)
            heap = heap_of(net, tree)
            self.assertEqual(heap, heap_by_words(net, tree), (net, tree))
            self.assertEqual(tree_of(net, heap), tree, (net, tree))


class AllTrees(unittest.TestCase):
    def test_by_hand(self):
        self.assertEqual(all_trees(samples.ONE_PLACE), [[0]])
        self.assertEqual(all_trees(samples.ONE_PLACE_THREE_ROADS), [[0], [1], [2]])
        self.assertEqual(all_trees(samples.PATH), [[0, 1, 2]])
        self.assertEqual(all_trees(samples.TRIANGLE), [[0, 1, 3], [0, 2, 3], [1, 2, 3]])
        self.assertEqual(all_trees(samples.ALIKE_ROADS), [[0, 3], [0, 4], [1, 3], [1, 4], [2, 3], [2, 4]])

    def test_held_against_all_choices_of_roads(self):
        for net in NETS:
            words = samples.all_trees_by_words(net)
            if len(words) <= 300:
                told = all_trees(net)
                self.assertEqual(told, words, net)
                self.assertEqual((type(told), {type(tree) for tree in told}), (list, {list}))
                self.assertEqual(len(told), len(samples.heaps_that_come_again(net)), net)

    def test_just_300(self):
        for net in [samples.THREE_HUNDRED, samples.THREE_HUNDRED_OF_THREE]:
            told = all_trees(net)
            self.assertEqual(len(told), 300)
            self.assertEqual(told, samples.all_trees_by_words(net))

    def test_more_are_refused(self):
        for net in [samples.THREE_HUNDRED_AND_ONE, samples.GRID, samples.ALL_TO_ALL, samples.FORTY_ROADS]:
            with self.assertRaises(TooMany, msg=net):
                all_trees(net)


class RefusedHeaps(unittest.TestCase):
    def test_not_still(self):
        for net in samples.PLAIN_NETS:
            for place, span in enumerate(samples.spans_of(net)):
                for grains in [span, span + 1, HUGE]:
                    heap = [other - 1 for other in samples.spans_of(net)]
                    heap[place] = grains
                    with self.assertRaises(NotAgain, msg=(net, heap)):
                        tree_of(net, heap)

    def test_does_not_burn_all_over(self):
        for net in NETS:
            for heap in samples.still_heaps(net)[:200]:
                if None in samples.rounds_by_words(net, heap):
                    with self.assertRaises(NotAgain, msg=(net, heap)):
                        tree_of(net, heap)

    def test_no_heap_at_all(self):
        for heap in [[], [1], [1, 2], [1, 2, 3, 4], [-1], [0, 0, 0, -1]]:
            with self.assertRaises(NoRow, msg=heap):
                tree_of(samples.PATH, heap)
        for heap in [[-1, 0, 0], [0, -1, 0], [9, 9, -1]]:
            with self.assertRaises(NoHeap, msg=heap):
                tree_of(samples.PATH, heap)


class RefusedTrees(unittest.TestCase):
    def refuse(self, net, tree):
        with self.assertRaises(NoTree, msg=(net, tree)):
            heap_of(net, tree)

    def test_too_few_or_too_many(self):
        for net in samples.PLAIN_NETS + samples.SMALL_NETS:
            roads = list(range(len(net[1])))
            for tree in [[], roads[:net[0] - 1], roads + [len(roads)], [0] * 41]:
                self.refuse(net, tree)
            if len(roads) > net[0]:
                self.refuse(net, roads[:net[0] + 1])
                self.refuse(net, roads)

    def test_one_twice_or_not_rising(self):
        for net in samples.SMALL_NETS:
            for tree in samples.all_trees_by_words(net)[:20]:
                if net[0] > 1:
                    self.refuse(net, tree[::-1])
                    self.refuse(net, tree[:-1] + tree[:1])
                    self.refuse(net, tree[:1] + tree[:-1])
                    self.refuse(net, tree[1:] + tree[-1:])
                self.refuse(net, tree + tree[-1:])

    def test_a_number_that_is_no_road(self):
        for net in samples.SMALL_NETS:
            for tree in samples.all_trees_by_words(net)[:20]:
                for number in [-1, -len(net[1]), -HUGE]:
                    self.refuse(net, [number] + tree[1:])
                for number in [len(net[1]), len(net[1]) + 1, HUGE]:
                    self.refuse(net, tree[:-1] + [number])
        self.refuse(samples.ONE_PLACE, [-1])
        self.refuse(samples.ONE_PLACE, [1])

    def test_a_number_below_0_that_would_be_a_road_counted_from_the_end(self):
        self.refuse(samples.TRIANGLE, [-1, 0, 1])
        self.refuse(samples.TRIANGLE, [-4, -3, -1])

    def test_a_place_cut_off(self):
        self.refuse(samples.TRIANGLE, [0, 1, 2])
        self.refuse(samples.ALIKE_ROADS, [0, 1])
        self.refuse(samples.ALIKE_ROADS, [3, 4])
        for net in samples.SMALL_NETS:
            trees = samples.all_trees_by_words(net)
            for choice in itertools.combinations(range(len(net[1])), net[0]):
                if list(choice) not in trees:
                    self.refuse(net, list(choice))


class RefusedNets(unittest.TestCase):
    def test_a_net_with_lanes_ahead_of_all_else(self):
        for net in samples.SMALL_LANE_NETS + [samples.THREE_HUNDRED_BY_LANES]:
            with self.assertRaises(NotPlain, msg=net):
                all_trees(net)
            for heap in [[], [0] * 9, [-1], [0] * net[0], [-1] * net[0], [HUGE] * net[0],
                         [span - 1 for span in samples.spans_of(net)]]:
                with self.assertRaises(NotPlain, msg=(net, heap)):
                    tree_of(net, heap)
            for tree in [[], [0], [-1], [99], [0, 0], list(range(net[0])), list(range(41))]:
                with self.assertRaises(NotPlain, msg=(net, tree)):
                    heap_of(net, tree)
