"""Points 19 and 20: the heap alike to a row that comes again, sums, the heap that adds nothing, contraries, times."""

import itertools
import random
import unittest

from heapstill.errors import NoHeap, NoRow
from heapstill.sums import again, contrary, heap_sum, nought, times
from tests import samples

FIGURES_18 = 10 ** 18 - 1
FIGURES_17 = 10 ** 17 - 1
SMALL = samples.SMALL_NETS + samples.SMALL_LANE_NETS
NETS = samples.ALL_NETS + SMALL + samples.some_nets(190, 40, 0) + samples.some_nets(191, 40, 9)


def some_row(chance, net, most):
    return [chance.randint(-most, most) for place in range(net[0])]


def measure_of(net):
    return samples.measure_by_sum([[-gain for gain in samples.toll_of(net, place)] for place in range(net[0])])


class Again(unittest.TestCase):
    def hold_against_words(self, net, row):
        told = again(net, row)
        self.assertEqual([type(told), type(told[0]), type(told[1])], [tuple, list, list])
        self.assertEqual([type(number) for number in told[0] + told[1]], [int] * (2 * net[0]))
        self.assertEqual(told[0], samples.row_behind(net, row, told[1]), (net, row))
        self.assertEqual(samples.may_topple(net, told[0]), [], (net, row))
        self.assertGreaterEqual(min(told[0]), 0)
        self.assertTrue(samples.comes_again_by_words(net, told[0]), (net, row))
        return told[0]

    def test_by_hand(self):
        self.assertEqual(again(samples.ONE_PLACE, [5]), ([0], [5]))
        self.assertEqual(again(samples.ONE_PLACE, [-5]), ([0], [-5]))
        self.assertEqual(again(samples.ONE_PLACE_THREE_ROADS, [-1]), ([2], [-1]))
        self.assertEqual(again(samples.ONE_PLACE_THREE_ROADS, [1]), ([1], [0]))
        self.assertEqual(again(samples.PATH, [0, 0, 0]), ([0, 1, 1], [-3, -3, -2]))
        self.assertEqual(again(samples.UPSTREAM, [0, 5]), ([0, 0], [0, 5]))
        self.assertEqual(again(samples.UPSTREAM, [-1, 0]), ([1, 0], [-1, -2]))

    def test_rows_of_18_figures_either_way(self):
        chance = random.Random(192)
        for net in NETS:
            for row in [[FIGURES_18] * net[0], [-FIGURES_18] * net[0], some_row(chance, net, FIGURES_18),
                        [(-1) ** place * FIGURES_18 for place in range(net[0])]]:
                self.hold_against_words(net, row)

    def test_small_rows_below_and_above_0(self):
        chance = random.Random(193)
        for net in NETS:
            for row in [[0] * net[0], [-1] * net[0], some_row(chance, net, 9), some_row(chance, net, 1000)]:
                self.hold_against_words(net, row)

    def test_heaps(self):
        chance = random.Random(194)
        for net in NETS:
            for most in [2, 50, FIGURES_18]:
                self.hold_against_words(net, [chance.randint(0, most) for place in range(net[0])])

    def test_heaps_that_come_again_are_their_own(self):
        for net in SMALL:
            reached = samples.heaps_that_come_again(net)
            for heap in samples.still_heaps(net):
                if heap in reached:
                    self.assertEqual(again(net, heap), (heap, [0] * net[0]), net)
                else:
                    self.assertIn(again(net, heap)[0], reached, net)

    def test_still_heaps_of_many_grains(self):
        """What has at least span - 1 grains on each place is made still: that heap comes again, so it is the one."""
        chance = random.Random(195)
        for net in NETS:
            heap = [span - 1 + chance.choice([0, 0, 1, 7, FIGURES_17]) for span in samples.spans_of(net)]
            self.assertEqual(again(net, heap), samples.still_by_fractions(net, heap), (net, heap))

    def test_alike_rows_come_to_one_heap(self):
        chance = random.Random(196)
        for net in NETS:
            for most in [3, 10 ** 14]:
                row = some_row(chance, net, FIGURES_18)
                heap = again(net, row)[0]
                for turn in range(3):
                    other = samples.row_behind(net, row, some_row(chance, net, most))
                    self.assertEqual(again(net, other)[0], heap, (net, row, other))

    def test_unlike_rows_come_to_unlike_heaps(self):
        for net in SMALL:
            reached = samples.heaps_that_come_again(net)
            heaps = [again(net, [-number for number in heap])[0] for heap in reached]
            self.assertEqual(sorted(heaps), reached, net)


class Sums(unittest.TestCase):
    def test_by_hand(self):
        self.assertEqual(heap_sum(samples.ONE_PLACE_THREE_ROADS, [2], [2]), [1])
        self.assertEqual(heap_sum(samples.PATH, [1, 1, 0], [0, 0, 1]), [0, 1, 1])
        self.assertEqual(heap_sum(samples.STAR, [0] * 4, [0] * 4), [0] * 4)

    def test_held_against_topplings(self):
        chance = random.Random(200)
        for net in NETS:
            for most in [1, 4, FIGURES_18]:
                one = [chance.randint(0, most) for place in range(net[0])]
                other = [chance.randint(0, most) for place in range(net[0])]
                slow = samples.still_by_fractions(net, [x + y for x, y in zip(one, other)])[0]
                self.assertEqual(heap_sum(net, one, other), slow, (net, one, other))
                self.assertEqual(heap_sum(net, other, one), slow, (net, one, other))

    def test_bracketed_either_way(self):
        chance = random.Random(201)
        for net in NETS:
            for most in [4, FIGURES_18]:
                one, other, third = [[chance.randint(0, most) for place in range(net[0])] for turn in range(3)]
                left = heap_sum(net, heap_sum(net, one, other), third)
                self.assertEqual(left, heap_sum(net, one, heap_sum(net, other, third)), (net, one, other, third))
                all_three = [sum(grains) for grains in zip(one, other, third)]
                self.assertEqual(left, samples.still_by_fractions(net, all_three)[0])

    def test_sums_of_heaps_that_come_again_do_too(self):
        for net in SMALL:
            reached = samples.heaps_that_come_again(net)
            for one, other in itertools.product(reached[:6], reached[-6:]):
                self.assertIn(heap_sum(net, one, other), reached)


class Nought(unittest.TestCase):
    def test_by_hand(self):
        self.assertEqual(nought(samples.ONE_PLACE), [0])
        self.assertEqual(nought(samples.ONE_PLACE_THREE_ROADS), [0])
        self.assertEqual(nought(samples.PATH), [0, 1, 1])
        self.assertEqual(nought(samples.TRIANGLE), [2, 1, 1])
        self.assertEqual(nought(samples.UPSTREAM), [0, 0])

    def test_alike_to_noughts_and_comes_again(self):
        for net in NETS:
            told = nought(net)
            self.assertTrue(all(count.denominator == 1 for count in samples.solved(net, told)), net)
            self.assertTrue(samples.comes_again_by_words(net, told), net)

    def test_added_to_heaps_that_come_again(self):
        chance = random.Random(202)
        for net in SMALL:
            for heap in samples.heaps_that_come_again(net):
                self.assertEqual(heap_sum(net, heap, nought(net)), heap, net)
        for net in NETS:
            heap = again(net, some_row(chance, net, FIGURES_18))[0]
            self.assertEqual(heap_sum(net, nought(net), heap), heap, net)

    def test_kinds(self):
        for told in [nought(samples.PATH), contrary(samples.PATH, [1, 2, 3]), times(samples.PATH, [1, 2, 3], -5),
                     heap_sum(samples.PATH, [1, 1, 1], [1, 1, 1])]:
            self.assertIs(type(told), list)
            self.assertEqual([type(grains) for grains in told], [int] * 3)


class Contraries(unittest.TestCase):
    def test_a_heap_and_its_contrary(self):
        chance = random.Random(203)
        for net in NETS:
            for most in [0, 3, FIGURES_18]:
                heap = [chance.randint(0, most) for place in range(net[0])]
                self.assertEqual(heap_sum(net, heap, contrary(net, heap)), nought(net), (net, heap))

    def test_a_row_below_0(self):
        chance = random.Random(204)
        for net in NETS:
            row = some_row(chance, net, FIGURES_18)
            told = contrary(net, row)
            self.assertTrue(samples.comes_again_by_words(net, told), (net, row))
            both = [x + y for x, y in zip(row, told)]
            self.assertTrue(all(count.denominator == 1 for count in samples.solved(net, both)), (net, row))

    def test_twice(self):
        for net in SMALL:
            for heap in samples.heaps_that_come_again(net):
                self.assertEqual(contrary(net, contrary(net, heap)), heap, net)


class Times(unittest.TestCase):
    def test_by_0_1_and_below_0(self):
        chance = random.Random(205)
        for net in NETS:
            for most in [2, FIGURES_18]:
                row = some_row(chance, net, most)
                self.assertEqual(times(net, row, 0), nought(net), (net, row))
                self.assertEqual(times(net, row, 1), again(net, row)[0], (net, row))
                self.assertEqual(times(net, row, -1), contrary(net, row), (net, row))
                self.assertEqual(times(net, row, -7), contrary(net, times(net, row, 7)), (net, row))

    def test_added_up_step_by_step(self):
        chance = random.Random(206)
        for net in SMALL:
            row = some_row(chance, net, 9)
            heap = nought(net)
            for factor in range(9):
                self.assertEqual(times(net, row, factor), heap, (net, row))
                heap = heap_sum(net, heap, again(net, row)[0])

    def test_by_as_many_as_come_again(self):
        chance = random.Random(207)
        for net in NETS:
            row = some_row(chance, net, FIGURES_18)
            how_many = measure_of(net)
            self.assertEqual(times(net, row, how_many), nought(net), (net, row))
            self.assertEqual(times(net, row, -how_many), nought(net), (net, row))
            self.assertEqual(times(net, row, how_many + 1), again(net, row)[0], (net, row))

    def test_by_great_numbers_either_way(self):
        chance = random.Random(208)
        for net in NETS:
            row = some_row(chance, net, FIGURES_18)
            how_many = measure_of(net)
            for factor in [FIGURES_17, -FIGURES_17, FIGURES_18, -FIGURES_18, chance.randint(-FIGURES_17, FIGURES_17)]:
                told = times(net, row, factor)
                self.assertEqual(told, times(net, row, factor % how_many), (net, row, factor))
                self.assertTrue(samples.comes_again_by_words(net, told))
                self.assertEqual(told, again(net, [factor * number for number in row])[0])


class Refused(unittest.TestCase):
    def test_a_row_of_another_length(self):
        for net in [samples.PATH, samples.TRIANGLE, samples.ROADS_AND_LANES, samples.LANES_ALONE]:
            for row in [[], [1], [1, 2], [1, 2, 3, 4], [-1], [-1, -1, -1, -1], [0] * 8]:
                for function in [again, contrary]:
                    with self.assertRaises(NoRow, msg=(function, net, row)):
                        function(net, row)
                for factor in [0, 1, -3]:
                    with self.assertRaises(NoRow, msg=(net, row)):
                        times(net, row, factor)
                for one, other in [(row, [0, 0, 0]), ([0, 0, 0], row), (row, row), (row, [0, -1, 0]), ([-1, 0, 0], row)]:
                    with self.assertRaises(NoRow, msg=(net, one, other)):
                        heap_sum(net, one, other)

    def test_a_sum_of_rows_below_0(self):
        for net in [samples.PATH, samples.TRIANGLE, samples.ROADS_AND_LANES, samples.LANES_ALONE]:
            for row in [[-1, 0, 0], [0, -1, 0], [0, 0, -1], [9, 9, -1], [-FIGURES_18] * 3]:
                for one, other in [(row, [0, 0, 0]), ([9, 9, 9], row), (row, row)]:
                    with self.assertRaises(NoHeap, msg=(net, one, other)):
                        heap_sum(net, one, other)

    def test_the_others_take_rows_below_0(self):
        for net in [samples.PATH, samples.TRIANGLE, samples.ROADS_AND_LANES, samples.LANES_ALONE]:
            for row in [[-1, 0, 0], [9, 9, -1], [-FIGURES_18] * 3]:
                for told in [again(net, row)[0], contrary(net, row), times(net, row, 2)]:
                    self.assertTrue(samples.comes_again_by_words(net, told))
