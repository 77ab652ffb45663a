"""Points 7 and 8: spans, tolls, the row behind counts, and the refusals of rows."""

import random
import unittest

from heapstill.errors import NoRow
from heapstill.tolls import after, span_list, toll_table
from tests import samples

HUGE = 10 ** 299 + 7


class SpansAndTolls(unittest.TestCase):
    def test_one_place(self):
        self.assertEqual(span_list(samples.ONE_PLACE), [1])
        self.assertEqual(toll_table(samples.ONE_PLACE), [[-1]])
        self.assertEqual(span_list(samples.ONE_PLACE_THREE_ROADS), [3])
        self.assertEqual(toll_table(samples.ONE_PLACE_THREE_ROADS), [[-3]])
        self.assertEqual(span_list(samples.ONE_LANE), [1])
        self.assertEqual(toll_table(samples.ONE_LANE), [[-1]])

    def test_roads(self):
        self.assertEqual(span_list(samples.TRIANGLE), [3, 2, 2])
        self.assertEqual(toll_table(samples.TRIANGLE), [[-3, 1, 1], [1, -2, 1], [1, 1, -2]])

    def test_alike_roads_and_ways_to_the_pit(self):
        self.assertEqual(span_list(samples.ALIKE_ROADS), [3, 5])
        self.assertEqual(toll_table(samples.ALIKE_ROADS), [[-3, 3], [3, -5]])

    def test_lanes_give_to_one_end_alone(self):
        self.assertEqual(span_list(samples.ROADS_AND_LANES), [1, 3, 2])
        self.assertEqual(toll_table(samples.ROADS_AND_LANES), [[-1, 1, 0], [1, -3, 1], [2, 0, -2]])

    def test_alike_lanes_and_ways_to_the_pit(self):
        self.assertEqual(span_list(samples.ALIKE_LANES), [3, 4])
        self.assertEqual(toll_table(samples.ALIKE_LANES), [[-3, 3], [1, -4]])

    def test_ways_to_the_pit_alone(self):
        self.assertEqual(span_list(samples.STAR), [1, 1, 1, 1])
        self.assertEqual(toll_table(samples.STAR), [[-1, 0, 0, 0], [0, -1, 0, 0], [0, 0, -1, 0], [0, 0, 0, -1]])

    def test_held_against_the_words(self):
        for net in samples.ALL_NETS + samples.some_nets(71, 80, 0) + samples.some_nets(72, 80, 9):
            self.assertEqual(span_list(net), samples.spans_of(net), net)
            self.assertEqual(toll_table(net), [samples.toll_of(net, place) for place in range(net[0])], net)


class After(unittest.TestCase):
    def test_counts_above_0(self):
        self.assertEqual(after(samples.TRIANGLE, [3, 0, 5], [1, 0, 2]), [2, 3, 2])
        self.assertEqual(after(samples.ALIKE_LANES, [0, 0], [1, 2]), [-1, -5])

    def test_counts_below_0(self):
        self.assertEqual(after(samples.TRIANGLE, [0, 0, 0], [-1, 0, 0]), [3, -1, -1])
        self.assertEqual(after(samples.ALIKE_LANES, [-4, 9], [0, -2]), [-6, 17])

    def test_counts_of_0(self):
        self.assertEqual(after(samples.PATH, [-7, 0, 7], [0, 0, 0]), [-7, 0, 7])

    def test_a_row_may_have_numbers_below_0(self):
        self.assertEqual(after(samples.ONE_PLACE, [-1], [0]), [-1])
        self.assertEqual(after(samples.ONE_PLACE, [-1], [4]), [-5])

    def test_numbers_of_many_figures(self):
        self.assertEqual(after(samples.ALIKE_ROADS, [HUGE, -HUGE], [HUGE, -1]), [-2 * HUGE - 3, 2 * HUGE + 5])
        self.assertEqual(after(samples.ONE_PLACE, [HUGE], [-HUGE]), [2 * HUGE])

    def test_held_against_the_words(self):
        chance = random.Random(8)
        for net in samples.ALL_NETS + samples.some_nets(81, 80, 0) + samples.some_nets(82, 80, 9):
            for size in [3, 10 ** 18, HUGE]:
                row = [chance.randint(-size, size) for place in range(net[0])]
                counts = [chance.randint(-size, size) for place in range(net[0])]
                told = after(net, row, counts)
                self.assertEqual(told, samples.row_behind(net, row, counts), net)
                self.assertEqual(after(net, told, [-count for count in counts]), row, net)


class Refused(unittest.TestCase):
    def test_a_row_too_long_or_too_short(self):
        for row in [[], [1], [1, 2], [1, 2, 3, 4], [-1, -1], [0] * 9]:
            with self.assertRaises(NoRow, msg=row):
                after(samples.PATH, row, [0, 0, 0])

    def test_counts_too_long_or_too_short(self):
        for counts in [[], [1], [1, 2], [1, 2, 3, 4], [-1, -1], [0] * 9]:
            with self.assertRaises(NoRow, msg=counts):
                after(samples.PATH, [0, 0, 0], counts)

    def test_both_alike_in_their_wrong_length(self):
        for length in [0, 1, 2, 4, 8]:
            with self.assertRaises(NoRow, msg=length):
                after(samples.PATH, [0] * length, [0] * length)

    def test_in_a_net_with_lanes(self):
        with self.assertRaises(NoRow):
            after(samples.ROADS_AND_LANES, [0, 0], [0, 0, 0])
        with self.assertRaises(NoRow):
            after(samples.ROADS_AND_LANES, [0, 0, 0], [0, 0, 0, 0])
