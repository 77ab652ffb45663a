"""Point 30: what a full row is worth, and its counterpart."""

import random
import unittest

from heapstill.errors import NoRow, NotPlain, TooMany
from heapstill.worth import counterpart, row_worth
from tests import samples

FOUR_ALL = (4, [(a, b) for a in range(5) for b in range(a + 1, 5)], [])
RING_OF_FIVE = (4, [(0, 1), (1, 2), (2, 3), (3, 4), (0, 4)], [])
MANY_ROADS = (2, [(0, 1)] * 9 + [(1, 2)] * 6, [])
NETS = samples.SMALL_NETS + [RING_OF_FIVE, MANY_ROADS] + samples.some_nets(300, 50, 0, 4)


def some_row(chance, net, total, most):
    """A full row, with debts too, whose numbers come to the total."""
    row = [chance.randint(-most, most) for spot in range(net[0])]
    row.append(total - sum(row))
    chance.shuffle(row)
    return row


def canon(net):
    return sum(samples.full_spans(net)) - 2 * (net[0] + 1)


class RowWorth(unittest.TestCase):
    def test_by_hand(self):
        # In a net that is a tree all rows of so many grains are alike, so each grain counts.
        for total in range(7):
            self.assertEqual(row_worth(samples.PATH, [total, 0, 0, 0]), total)
            self.assertEqual(row_worth(samples.STAR, [9, -9, 4, -4, total]), total)
        self.assertEqual(row_worth(samples.TRIANGLE, [0, 0, 0, 0]), 0)
        self.assertEqual(row_worth(samples.TRIANGLE, [0, 0, 0, 1]), 0)
        self.assertEqual(row_worth(samples.TRIANGLE, [1, 0, 0, 1]), 1)
        self.assertEqual(row_worth(RING_OF_FIVE, [1, -1, 0, 0, 0]), -1)
        self.assertEqual(row_worth(RING_OF_FIVE, [0, 0, 0, 0, 6]), 5)
        self.assertEqual(row_worth(FOUR_ALL, [1, 1, 1, 1, 1]), 2)

    def test_what_can_not_be_made_good(self):
        for net in NETS:
            self.assertEqual(row_worth(net, [-1] + [0] * net[0]), -1, net)
            self.assertEqual(row_worth(net, [0] * net[0] + [-1]), -1, net)
            self.assertEqual(row_worth(net, [1 - 10 ** 17] * (net[0] + 1)), -1, net)
            self.assertEqual(row_worth(net, [0] * (net[0] + 1)), 0, net)

    def test_held_against_all_grains_that_may_be_taken(self):
        chance = random.Random(301)
        seen = []
        for net in NETS:
            debts = samples.Debts(net)
            for total in range(-1, 7):
                for most in [0, 1, 4]:
                    full = some_row(chance, net, total, most)
                    seen.append(debts.worth(full))
                    self.assertEqual(row_worth(net, full), seen[-1], (net, full))
        self.assertEqual(set(seen), set(range(-1, 7)))

    def test_all_small_rows_of_small_nets(self):
        for net in samples.SMALL_NETS:
            debts = samples.Debts(net)
            for total in range(4):
                for full in samples.shares(total, net[0] + 1)[:40]:
                    self.assertEqual(row_worth(net, full), debts.worth(full), (net, full))

    def test_alike_rows_are_worth_the_same(self):
        chance = random.Random(302)
        for net in NETS:
            full = some_row(chance, net, chance.randint(0, 6), 2)
            counts = [chance.randint(-10 ** 15, 10 ** 15) for spot in full]
            self.assertEqual(row_worth(net, samples.full_behind(net, full, counts)), row_worth(net, full), (net, full))

    def test_just_four_places_and_just_six_grains(self):
        for net in [samples.STAR, RING_OF_FIVE, FOUR_ALL]:
            self.assertEqual(net[0], 4)
            for full in [[6, 0, 0, 0, 0], [0, 0, 0, 0, 6], [2, 1, 1, 1, 1], [10 ** 16, -10 ** 16, 3, 3, 0]]:
                self.assertEqual(row_worth(net, full), samples.Debts(net).worth(full), (net, full))

    def test_kind(self):
        for full in [[0, 0], [-1, 0], [3, 0]]:
            self.assertIs(type(row_worth(samples.ONE_PLACE, full)), int)


class Counterpart(unittest.TestCase):
    def test_by_hand(self):
        self.assertEqual(counterpart(samples.ONE_PLACE, [0, 0]), [-1, -1])
        self.assertEqual(counterpart(samples.ONE_PLACE_THREE_ROADS, [5, -2]), [-4, 3])
        self.assertEqual(counterpart(samples.PATH, [0, 0, 0, 0]), [-1, 0, 0, -1])
        self.assertEqual(counterpart(samples.TRIANGLE, [1, 2, 3, 4]), [0, -2, -3, -5])
        self.assertEqual(counterpart(samples.STAR, [0, 0, 0, 0, 0]), [-1, -1, -1, -1, 2])

    def test_by_the_words_in_nets_of_all_sizes(self):
        chance = random.Random(303)
        for net in samples.PLAIN_NETS + samples.some_nets(304, 60, 0):
            for most in [5, 10 ** 17 - 1, 10 ** 299]:
                full = [chance.randint(-most, most) for spot in range(net[0] + 1)]
                told = counterpart(net, full)
                words = [span - 2 - number for span, number in zip(samples.full_spans(net), full)]
                self.assertEqual(told, words, (net, full))
                self.assertEqual(counterpart(net, told), full, (net, full))
                self.assertIs(type(told), list)


class LastSentence(unittest.TestCase):
    def check(self, net, full):
        less = row_worth(net, full) - row_worth(net, counterpart(net, full))
        self.assertEqual(less, sum(full) + net[0] + 1 - len(net[1]), (net, full))

    def test_many_nets_and_rows(self):
        chance = random.Random(305)
        checked = 0
        for net in NETS + samples.some_nets(306, 70, 0, 4):
            # Both a row and its counterpart have at most six grains.
            for total in range(canon(net) - 6, 7):
                for most in [2, 10 ** 16]:
                    self.check(net, some_row(chance, net, total, most))
                    checked += 1
        self.assertGreater(checked, 1000)

    def test_a_row_worth_something_and_a_counterpart_too(self):
        self.assertEqual(counterpart(FOUR_ALL, [2, 2, 2, 2, 2]), [0, 0, 0, 0, 0])
        self.check(FOUR_ALL, [1, 1, 1, 1, 1])
        self.check(FOUR_ALL, [1, 1, 1, 1, 0])
        self.check(FOUR_ALL, [1, 1, 1, 1, 2])


class Refused(unittest.TestCase):
    def test_seven_grains(self):
        for net in samples.SMALL_NETS:
            for full in [[7] + [0] * net[0], [0] * net[0] + [7], [-3] * net[0] + [7 + 3 * net[0]],
                         [10 ** 16] * (net[0] + 1), [8] + [0] * net[0]]:
                with self.assertRaises(TooMany, msg=(net, full)):
                    row_worth(net, full)
            row_worth(net, [-3] * net[0] + [6 + 3 * net[0]])

    def test_five_places(self):
        nets = [(many, [(place, place + 1) for place in range(many)], []) for many in range(5, 9)]
        for net in nets + [samples.GRID, samples.FAR_END, samples.ALL_TO_ALL, samples.FORTY_ROADS]:
            for full in [[0] * (net[0] + 1), [-1] * (net[0] + 1), [6] + [0] * net[0], [7] + [0] * net[0]]:
                with self.assertRaises(TooMany, msg=(net, full)):
                    row_worth(net, full)
            counterpart(net, [9] * (net[0] + 1))

    def test_behind_no_row(self):
        for net in [samples.STAR, samples.GRID]:
            for full in [[], [7], [9] * net[0], [9] * (net[0] + 2)]:
                with self.assertRaises(NoRow, msg=(net, full)):
                    row_worth(net, full)

    def test_behind_not_plain(self):
        for net in samples.LANE_NETS:
            for full in [[9] * net[0], [9] * (net[0] + 1), [9] * (net[0] + 2)]:
                with self.assertRaises(NotPlain, msg=(net, full)):
                    row_worth(net, full)
