"""Points 21 and 22: how many heaps come again, the lengths of their rings, places in the rings, all such heaps."""

import itertools
import math
import random
import unittest

from heapstill.errors import NoRow, TooMany
from heapstill.rings import all_again, heap_at, how_many, ring_lengths, ring_place
from tests import samples

FIGURES_18 = 10 ** 18 - 1
SMALL = samples.SMALL_NETS + samples.SMALL_LANE_NETS
NETS = samples.ALL_NETS + SMALL + samples.some_nets(210, 40, 0) + samples.some_nets(211, 40, 9)
ONE_HEAP_ALONE = [samples.ONE_PLACE, samples.PATH, samples.STAR, samples.ONE_LANE, samples.LANES_ALONE,
                  samples.GOES_BACK, (8, [(place, place + 1) for place in range(8)], [])]


def some_row(chance, net, most):
    return [chance.randint(-most, most) for place in range(net[0])]


def words_table(net):
    return [[-gain for gain in samples.toll_of(net, place)] for place in range(net[0])]


def all_places(net):
    return [list(place) for place in itertools.product(*[range(length) for length in ring_lengths(net)])]


class HowMany(unittest.TestCase):
    def test_by_hand(self):
        for net, told in [(samples.ONE_PLACE, 1), (samples.ONE_PLACE_THREE_ROADS, 3), (samples.PATH, 1),
                          (samples.TRIANGLE, 3), (samples.ALIKE_ROADS, 6), (samples.UPSTREAM, 2),
                          (samples.ALIKE_LANES, 9), (samples.ALL_TO_ALL, 9 ** 7), (samples.FORTY_ROADS, 5 ** 8),
                          (samples.THREE_HUNDRED, 300), (samples.THREE_HUNDRED_OF_THREE, 300),
                          (samples.THREE_HUNDRED_BY_LANES, 300), (samples.THREE_HUNDRED_AND_ONE, 301)]:
            self.assertEqual(how_many(net), told, net)

    def test_small_nets_counted_one_by_one(self):
        for net in SMALL:
            self.assertEqual(how_many(net), len(samples.heaps_that_come_again(net)), net)

    def test_held_against_the_measure(self):
        for net in NETS:
            told = how_many(net)
            self.assertIs(type(told), int)
            self.assertGreaterEqual(told, 1)
            self.assertEqual(told, samples.measure_by_sum(words_table(net)), net)


class Lengths(unittest.TestCase):
    def test_by_hand(self):
        for net, told in [(samples.ONE_PLACE_THREE_ROADS, [3]), (samples.ALIKE_ROADS, [6]), (samples.UPSTREAM, [2]),
                          ((2, [(0, 2), (0, 2), (1, 2), (1, 2)], []), [2, 2]),
                          ((2, [], [(0, 2), (0, 2), (1, 2), (1, 2)]), [2, 2]),
                          ((2, [(0, 2)] * 4 + [(1, 2)] * 6, []), [2, 12]), (samples.ALL_TO_ALL, [9] * 7),
                          (samples.FORTY_ROADS, [5] * 8), (samples.THREE_HUNDRED, [5, 60])]:
            self.assertEqual(ring_lengths(net), told, net)

    def test_just_one_heap(self):
        for net in ONE_HEAP_ALONE:
            self.assertEqual(how_many(net), 1)
            self.assertEqual(ring_lengths(net), [])

    def test_held_against_the_words(self):
        for net in NETS:
            lengths = ring_lengths(net)
            self.assertIs(type(lengths), list)
            self.assertEqual({type(length) for length in lengths} - {int}, set())
            self.assertTrue(all(length > 1 for length in lengths), net)
            self.assertTrue(all(other % one == 0 for one, other in zip(lengths, lengths[1:])), net)
            self.assertEqual(math.prod(lengths), how_many(net), net)

    def test_the_last_is_the_least_number_of_times_that_brings_each_row_to_noughts(self):
        for net in NETS:
            columns = [samples.solved(net, unit) for unit in samples.ones(net[0])]
            least = math.lcm(*[count.denominator for counts in columns for count in counts])
            self.assertEqual((ring_lengths(net) or [1])[-1], least, net)


class Places(unittest.TestCase):
    def test_each_number_from_0_to_below_its_length(self):
        chance = random.Random(212)
        for net in NETS:
            lengths = ring_lengths(net)
            for most in [0, 5, FIGURES_18]:
                place = ring_place(net, some_row(chance, net, most))
                self.assertIs(type(place), list)
                self.assertEqual({type(number) for number in place} - {int}, set())
                self.assertEqual(len(place), len(lengths), net)
                self.assertTrue(all(0 <= number < length for number, length in zip(place, lengths)), net)

    def test_just_one_heap(self):
        for net in ONE_HEAP_ALONE:
            for row in [[0] * net[0], [-1] * net[0], [FIGURES_18] * net[0]]:
                self.assertEqual(ring_place(net, row), [])

    def test_the_row_of_noughts(self):
        for net in NETS:
            self.assertEqual(ring_place(net, [0] * net[0]), [0] * len(ring_lengths(net)))

    def test_alike_rows(self):
        chance = random.Random(213)
        for net in NETS:
            for most in [3, 10 ** 14]:
                row = some_row(chance, net, FIGURES_18)
                other = samples.row_behind(net, row, some_row(chance, net, most))
                self.assertEqual(ring_place(net, row), ring_place(net, other), (net, row, other))

    def test_unlike_rows(self):
        for net in SMALL:
            places = [ring_place(net, heap) for heap in samples.heaps_that_come_again(net)]
            self.assertEqual(sorted(places), all_places(net), net)

    def test_alike_or_not_by_fractions(self):
        chance = random.Random(214)
        kinds = []
        for net in NETS:
            for most in [1, 2, FIGURES_18]:
                one = some_row(chance, net, most)
                other = some_row(chance, net, most)
                counts = samples.solved(net, [x - y for x, y in zip(one, other)])
                alike = all(count.denominator == 1 for count in counts)
                self.assertEqual(ring_place(net, one) == ring_place(net, other), alike, (net, one, other))
                kinds.append(alike)
        self.assertEqual(set(kinds), {True, False})

    def test_sums_of_rows(self):
        chance = random.Random(215)
        for net in NETS:
            lengths = ring_lengths(net)
            for most in [3, FIGURES_18]:
                one = some_row(chance, net, most)
                other = some_row(chance, net, most)
                both = ring_place(net, [x + y for x, y in zip(one, other)])
                added = [x + y for x, y in zip(ring_place(net, one), ring_place(net, other))]
                words = [x - length if x >= length else x for x, length in zip(added, lengths)]
                self.assertEqual(both, words, (net, one, other))

    def test_equal_nets_have_one_telling(self):
        for net in NETS:
            same = (net[0], list(net[1]), list(net[2]))
            for unit in samples.ones(net[0]):
                self.assertEqual(ring_place(net, unit), ring_place(same, unit))


class HeapsAtPlaces(unittest.TestCase):
    def test_there_and_back_for_every_place_of_small_nets(self):
        for net in SMALL + [samples.THREE_HUNDRED_OF_THREE, samples.THREE_HUNDRED_BY_LANES]:
            heaps = []
            for place in all_places(net):
                heaps.append(heap_at(net, place))
                self.assertEqual(ring_place(net, heaps[-1]), place, net)
            self.assertEqual(sorted(heaps), samples.heaps_that_come_again(net), net)

    def test_back_and_there_for_every_heap_of_small_nets(self):
        for net in SMALL:
            for heap in samples.heaps_that_come_again(net):
                self.assertEqual(heap_at(net, ring_place(net, heap)), heap, net)

    def test_nets_of_all_sizes(self):
        chance = random.Random(216)
        for net in NETS:
            lengths = ring_lengths(net)
            for place in [[0] * len(lengths), [length - 1 for length in lengths],
                          [chance.randrange(length) for length in lengths]]:
                heap = heap_at(net, place)
                self.assertEqual([type(grains) for grains in heap], [int] * net[0])
                self.assertTrue(samples.comes_again_by_words(net, heap), (net, place))
                self.assertEqual(ring_place(net, heap), place, net)

    def test_just_one_heap(self):
        for net in ONE_HEAP_ALONE:
            self.assertEqual([heap_at(net, [])], samples.heaps_that_come_again(net))


class AllAgain(unittest.TestCase):
    def test_by_hand(self):
        self.assertEqual(all_again(samples.ONE_PLACE), [[0]])
        self.assertEqual(all_again(samples.ONE_PLACE_THREE_ROADS), [[0], [1], [2]])
        self.assertEqual(all_again(samples.PATH), [[0, 1, 1]])
        self.assertEqual(all_again(samples.TRIANGLE), [[2, 0, 1], [2, 1, 0], [2, 1, 1]])
        self.assertEqual(all_again(samples.UPSTREAM), [[0, 0], [1, 0]])

    def test_small_nets_one_by_one(self):
        for net in SMALL + [samples.FAR_END]:
            told = all_again(net)
            self.assertIs(type(told), list)
            self.assertEqual({type(heap) for heap in told}, {list})
            self.assertEqual(told, samples.heaps_that_come_again(net), net)

    def test_plain_nets_by_fire(self):
        for net in samples.SMALL_NETS:
            words = [heap for heap in samples.still_heaps(net) if None not in samples.rounds_by_words(net, heap)]
            self.assertEqual(all_again(net), words, net)

    def test_nets_of_all_sizes(self):
        for net in NETS:
            if how_many(net) <= 300:
                told = all_again(net)
                self.assertEqual(len(told), how_many(net), net)
                self.assertEqual(told, sorted(told), net)
                self.assertEqual(len({tuple(heap) for heap in told}), len(told), net)
                self.assertTrue(all(samples.comes_again_by_words(net, heap) for heap in told[:5]), net)

    def test_just_300(self):
        for net in [samples.THREE_HUNDRED, samples.THREE_HUNDRED_OF_THREE, samples.THREE_HUNDRED_BY_LANES]:
            told = all_again(net)
            self.assertEqual(len(told), 300)
            self.assertEqual(told, samples.heaps_that_come_again(net))

    def test_more_are_refused(self):
        for net in [samples.THREE_HUNDRED_AND_ONE, samples.GRID, samples.ALL_TO_ALL, samples.FORTY_ROADS]:
            with self.assertRaises(TooMany, msg=net):
                all_again(net)


class Refused(unittest.TestCase):
    def test_a_row_of_another_length(self):
        for net in [samples.PATH, samples.TRIANGLE, samples.ROADS_AND_LANES, samples.LANES_ALONE]:
            for row in [[], [1], [1, 2], [1, 2, 3, 4], [-1], [0] * 8]:
                with self.assertRaises(NoRow, msg=(net, row)):
                    ring_place(net, row)

    def test_a_number_more_or_fewer(self):
        for net in SMALL + samples.ALL_NETS:
            lengths = ring_lengths(net)
            for place in [[0] * (len(lengths) + 1), [0] * (len(lengths) + 2), [0] * 9, [-1] * (len(lengths) + 1)]:
                with self.assertRaises(NoRow, msg=(net, place)):
                    heap_at(net, place)
            if lengths:
                for place in [[], [0] * (len(lengths) - 1), [length - 1 for length in lengths[1:]]]:
                    with self.assertRaises(NoRow, msg=(net, place)):
                        heap_at(net, place)

    def test_a_number_below_0_or_as_great_as_its_length(self):
        for net in SMALL + samples.ALL_NETS:
            lengths = ring_lengths(net)
            for at, length in enumerate(lengths):
                for number in [-1, -length, -FIGURES_18, length, length + 1, FIGURES_18]:
                    for place in [[0] * len(lengths), [other - 1 for other in lengths]]:
                        place[at] = number
                        with self.assertRaises(NoRow, msg=(net, place)):
                            heap_at(net, place)

    def test_a_heap_is_no_place(self):
        for net in [samples.PATH, samples.TRIANGLE, samples.ALIKE_ROADS, samples.UPSTREAM]:
            with self.assertRaises(NoRow, msg=net):
                heap_at(net, [0] * net[0])
