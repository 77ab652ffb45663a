"""Points 18 and 21: the table of a net, and rows that lead to one another or are parted by a weighing."""

import random
import unittest

from heapstill.alike import net_table, told_alike
from heapstill.errors import NoRow
from tests import samples

FIGURES_18 = 10 ** 18 - 1
FIGURES_14 = 10 ** 14 - 1
NETS = samples.ALL_NETS + samples.SMALL_NETS + samples.SMALL_LANE_NETS
NETS = NETS + samples.some_nets(180, 40, 0) + samples.some_nets(181, 40, 9)


class NetTable(unittest.TestCase):
    def test_by_hand(self):
        self.assertEqual(net_table(samples.ONE_PLACE_THREE_ROADS), [[3]])
        self.assertEqual(net_table(samples.TRIANGLE), [[3, -1, -1], [-1, 2, -1], [-1, -1, 2]])
        self.assertEqual(net_table(samples.ROADS_AND_LANES), [[1, -1, 0], [-1, 3, -1], [-2, 0, 2]])
        self.assertEqual(net_table(samples.ALIKE_LANES), [[3, -3], [-1, 4]])

    def test_held_against_the_words(self):
        for net in NETS:
            words = [[-gain for gain in samples.toll_of(net, place)] for place in range(net[0])]
            self.assertEqual(net_table(net), words, net)
            self.assertEqual([net_table(net)[place][place] for place in range(net[0])], samples.spans_of(net))


class Alike(unittest.TestCase):
    def hold_alike(self, net, one, counts):
        other = samples.row_behind(net, one, counts)
        self.assertEqual(told_alike(net, one, other), ("alike", counts), (net, one, other))
        self.assertEqual(told_alike(net, other, one), ("alike", [-count for count in counts]), (net, one, other))

    def test_by_hand(self):
        self.assertEqual(told_alike(samples.TRIANGLE, [3, 0, 0], [0, 1, 1]), ("alike", [1, 0, 0]))
        self.assertEqual(told_alike(samples.TRIANGLE, [0, 1, 1], [3, 0, 0]), ("alike", [-1, 0, 0]))
        self.assertEqual(told_alike(samples.UPSTREAM, [2, 0], [0, 0]), ("alike", [1, 2]))
        self.assertEqual(told_alike(samples.ROADS_AND_LANES, [0, 0, 0], [2, 0, -2]), ("alike", [0, 0, 1]))

    def test_a_row_and_itself(self):
        chance = random.Random(182)
        for net in NETS:
            for most in [0, 5, FIGURES_18]:
                row = [chance.randint(-most, most) for place in range(net[0])]
                self.assertEqual(told_alike(net, row, list(row)), ("alike", [0] * net[0]))
                self.assertEqual(told_alike(net, row, row), ("alike", [0] * net[0]))

    def test_counts_of_all_sizes(self):
        chance = random.Random(183)
        for net in NETS:
            for most in [1, 9, FIGURES_14]:
                one = [chance.randint(-FIGURES_18, FIGURES_18) for place in range(net[0])]
                self.hold_alike(net, one, [chance.randint(-most, most) for place in range(net[0])])
                self.hold_alike(net, one, [chance.randint(1, most) for place in range(net[0])])
                self.hold_alike(net, one, [chance.randint(-most, -1) for place in range(net[0])])

    def test_one_toppling(self):
        for net in NETS:
            for place in range(net[0]):
                self.hold_alike(net, [0] * net[0], [int(other == place) for other in range(net[0])])

    def test_nets_where_all_rows_are_alike(self):
        for net in [samples.PATH, samples.STAR, samples.LANES_ALONE, samples.GOES_BACK]:
            told = told_alike(net, [FIGURES_18] * net[0], [-FIGURES_18] * net[0])
            self.assertEqual(told[0], "alike")
            self.assertEqual(samples.row_behind(net, [FIGURES_18] * net[0], told[1]), [-FIGURES_18] * net[0])

    def test_kinds(self):
        told = told_alike(samples.TRIANGLE, [3, 0, 0], [0, 1, 1])
        self.assertEqual([type(told), type(told[0]), type(told[1])], [tuple, str, list])
        self.assertEqual([type(count) for count in told[1]], [int] * 3)


class Apart(unittest.TestCase):
    def hold_weighing(self, net, one, other, told):
        self.assertEqual((type(told), len(told), told[0]), (tuple, 3, "apart"), (net, one, other))
        tops, bottom = told[1:]
        self.assertEqual([type(top) for top in tops], [int] * net[0])
        self.assertEqual((type(tops), type(bottom)), (list, int))
        self.assertGreaterEqual(bottom, 1)
        for place in range(net[0]):
            weight = sum(top * gain for top, gain in zip(tops, samples.toll_of(net, place)))
            self.assertEqual(weight % bottom, 0, (net, one, other))
        weight = sum(top * (y - x) for top, x, y in zip(tops, one, other))
        self.assertNotEqual(weight % bottom, 0, (net, one, other))

    def hold_against_fractions(self, net, one, other):
        """One way or the other, by the counts as fractions; told is which."""
        counts = samples.solved(net, [x - y for x, y in zip(one, other)])
        alike = all(count.denominator == 1 for count in counts)
        for first, second, sign in [(one, other, 1), (other, one, -1)]:
            told = told_alike(net, first, second)
            if alike:
                self.assertEqual(told, ("alike", [int(sign * count) for count in counts]), (net, first, second))
            else:
                self.hold_weighing(net, first, second, told)
        return alike

    def test_by_hand(self):
        for net, one, other in [(samples.ONE_PLACE_THREE_ROADS, [0], [1]), (samples.ONE_PLACE_THREE_ROADS, [4], [-1]),
                                (samples.TRIANGLE, [0, 0, 0], [0, 1, 0]), (samples.UPSTREAM, [0, 0], [1, 0]),
                                (samples.ALIKE_LANES, [0, 0], [3, 0])]:
            self.hold_weighing(net, one, other, told_alike(net, one, other))
            self.hold_weighing(net, other, one, told_alike(net, other, one))

    def test_rows_of_18_figures_that_differ_by_one_grain(self):
        chance = random.Random(184)
        kinds = []
        for net in NETS:
            for place in range(net[0]):
                one = [chance.randint(-FIGURES_18, FIGURES_18 - 1) for other in range(net[0])]
                other = list(one)
                other[place] += 1
                kinds.append(self.hold_against_fractions(net, one, other))
        self.assertEqual(set(kinds), {True, False})

    def test_rows_of_all_sizes(self):
        chance = random.Random(185)
        for net in NETS:
            for most in [1, 5, FIGURES_18]:
                one = [chance.randint(-most, most) for place in range(net[0])]
                other = [chance.randint(-most, most) for place in range(net[0])]
                self.hold_against_fractions(net, one, other)

    def test_one_grain_behind_many_topplings(self):
        chance = random.Random(186)
        for net in NETS:
            counts = [chance.randint(-FIGURES_14, FIGURES_14) for place in range(net[0])]
            one = [chance.randint(-9, 9) for place in range(net[0])]
            other = samples.row_behind(net, one, counts)
            other[chance.randrange(net[0])] += 1
            self.hold_against_fractions(net, one, other)

    def test_all_heaps_that_come_again_are_apart(self):
        for net in samples.SMALL_NETS + samples.SMALL_LANE_NETS:
            heaps = samples.heaps_that_come_again(net)[:12]
            for one in heaps:
                for other in heaps:
                    if one != other:
                        self.hold_weighing(net, one, other, told_alike(net, one, other))


class Refused(unittest.TestCase):
    def test_a_row_of_another_length(self):
        for net in [samples.PATH, samples.TRIANGLE, samples.ROADS_AND_LANES, samples.LANES_ALONE]:
            for row in [[], [1], [1, 2], [1, 2, 3, 4], [-1, -1], [0] * 8]:
                for one, other in [(row, [0, 0, 0]), ([0, 0, 0], row), (row, row), (row, [-1, -1, -1])]:
                    with self.assertRaises(NoRow, msg=(net, one, other)):
                        told_alike(net, one, other)
