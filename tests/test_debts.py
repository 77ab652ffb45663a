"""Points 27 to 29, and 8's last sentence: full rows, the pit that topples too, lowest forms, what can be made good."""

import random
import unittest

from heapstill.debts import full_after, lowest, made_good
from heapstill.errors import NoRow, NotPlain
from heapstill.worth import counterpart, row_worth
from tests import samples

HUGE = 10 ** 299
NETS = samples.PLAIN_NETS + samples.SMALL_NETS + samples.some_nets(270, 60, 0)
SMALL = samples.SMALL_NETS + samples.some_nets(271, 40, 0, 4)


def some_row(chance, net, most):
    return [chance.randint(-most, most) for spot in range(net[0] + 1)]


class FullAfter(unittest.TestCase):
    def test_by_hand(self):
        self.assertEqual(full_after(samples.ONE_PLACE, [3, -1], [2, 0]), [1, 1])
        self.assertEqual(full_after(samples.ONE_PLACE, [3, -1], [0, 2]), [5, -3])
        self.assertEqual(full_after(samples.ONE_PLACE_THREE_ROADS, [0, 0], [1, 0]), [-3, 3])
        self.assertEqual(full_after(samples.PATH, [0, 0, 0, 0], [0, 0, 0, 1]), [0, 0, 1, -1])
        self.assertEqual(full_after(samples.PATH, [0, 0, 0, 0], [0, -1, 0, 0]), [-1, 2, -1, 0])
        self.assertEqual(full_after(samples.STAR, [1, 1, 1, 1, -4], [0, 0, 0, 0, 2]), [3, 3, 3, 3, -12])

    def test_held_against_topplings_one_by_one(self):
        chance = random.Random(272)
        for net in NETS:
            for turn in range(3):
                full = some_row(chance, net, 9)
                spots = [chance.randint(0, net[0]) for step in range(chance.randint(0, 30))]
                counts = [spots.count(spot) for spot in range(net[0] + 1)]
                row = samples.full_toppled(net, full, spots)
                self.assertEqual(full_after(net, full, counts), row, (net, full, counts))
                # Below 0 it goes the other way.
                self.assertEqual(full_after(net, row, [0 - count for count in counts]), full, (net, row, counts))

    def test_counts_below_0_and_long_numbers(self):
        chance = random.Random(273)
        for net in NETS:
            for most in [3, 10 ** 17 - 1, 10 ** 40, HUGE]:
                full = some_row(chance, net, 10 ** 17 - 1)
                counts = some_row(chance, net, most)
                row = full_after(net, full, counts)
                self.assertEqual(row, samples.full_behind(net, full, counts), (net, full, counts))
                self.assertEqual(sum(row), sum(full), (net, full, counts))
                for more in [1, -1, 10 ** 17 - 1, -HUGE]:
                    raised = [count + more for count in counts]
                    self.assertEqual(full_after(net, full, raised), row, (net, full, counts, more))

    def test_the_pit_alone_topples(self):
        for net in NETS:
            zeros = [0] * (net[0] + 1)
            gains = [samples.other_ends(net, net[0]).count(place) for place in range(net[0])]
            told = full_after(net, zeros, zeros[1:] + [1])
            self.assertEqual(told, gains + [0 - samples.span_of(net, net[0])], net)

    def test_kind(self):
        told = full_after(samples.PATH, [0, 0, 0, 0], [1, 0, 0, 0])
        self.assertIs(type(told), list)
        self.assertEqual([type(number) for number in told], [int] * 4)


class Lowest(unittest.TestCase):
    def check(self, net, full):
        told = lowest(net, full)
        self.assertEqual((type(told), len(told)), (tuple, 2))
        row, counts = told
        self.assertEqual([type(part) for part in told], [list, list])
        self.assertEqual((len(row), len(counts), counts[-1]), (net[0] + 1, net[0] + 1, 0), (net, full))
        self.assertEqual(row, samples.full_behind(net, full, counts), (net, full))
        heap = [span - 1 - number for span, number in zip(samples.spans_of(net), row)]
        self.assertGreaterEqual(min(heap), 0, (net, full))
        self.assertTrue(samples.comes_again_by_words(net, heap), (net, full))
        self.assertGreaterEqual(min(row[:-1]), 0, (net, full))
        return row, counts

    def test_by_hand(self):
        self.assertEqual(lowest(samples.ONE_PLACE, [3, -1]), ([0, 2], [3, 0]))
        self.assertEqual(lowest(samples.ONE_PLACE, [-3, 1]), ([0, -2], [-3, 0]))
        self.assertEqual(lowest(samples.ONE_PLACE_THREE_ROADS, [5, 0]), ([2, 3], [1, 0]))
        self.assertEqual(lowest(samples.ONE_PLACE_THREE_ROADS, [-1, 0]), ([2, -3], [-1, 0]))
        self.assertEqual(lowest(samples.PATH, [1, 0, 0, 0]), ([0, 0, 0, 1], [3, 2, 1, 0]))
        self.assertEqual(lowest(samples.TRIANGLE, [0, 1, 1, 0]), ([0, 0, 0, 2], [2, 3, 3, 0]))

    def test_every_word_of_point_28(self):
        chance = random.Random(280)
        for net in NETS:
            for most in [2, 9, 10 ** 17 - 1, 10 ** 19]:
                self.check(net, some_row(chance, net, most))
            for end in [10 ** 17 - 1, 1 - 10 ** 17]:
                self.check(net, [end] * (net[0] + 1))
                self.check(net, [0] * net[0] + [end])
                self.check(net, [end] + [0] * net[0])

    def test_alike_full_rows_have_one_lowest_form(self):
        chance = random.Random(281)
        for net in NETS:
            for most in [3, 10 ** 16]:
                full = some_row(chance, net, 10 ** 6)
                row, counts = self.check(net, full)
                moves = some_row(chance, net, most)
                other = samples.full_behind(net, full, moves)
                there, other_counts = self.check(net, other)
                self.assertEqual(there, row, (net, full, moves))
                # There is one list of counts alone with 0 for the pit.
                level = [count - move + moves[-1] for count, move in zip(counts, moves)]
                self.assertEqual(other_counts, level, (net, full, moves))

    def test_a_lowest_form_stays_as_it_is(self):
        chance = random.Random(282)
        for net in NETS:
            for turn in range(3):
                heap = [span - 1 + chance.randint(0, 3) for span in samples.spans_of(net)]
                heap = samples.toppled_one_by_one(net, heap, min)[0]
                row = [span - 1 - grains for span, grains in zip(samples.spans_of(net), heap)]
                for pit in [0, -7, 10 ** 17 - 1]:
                    self.assertEqual(lowest(net, row + [pit]), (row + [pit], [0] * (net[0] + 1)), (net, row))

    def test_rows_that_are_not_alike_have_unlike_lowest_forms(self):
        for net in SMALL:
            debts = samples.Debts(net)
            forms = {}
            for full in samples.shares(3, net[0] + 1):
                forms.setdefault(tuple(lowest(net, full)[0]), []).append(debts.kind_of(full))
            kinds = [set(kinds) for kinds in forms.values()]
            self.assertEqual([len(each) for each in kinds], [1] * len(kinds), net)
            self.assertEqual(len(set.union(*kinds)), len(kinds), net)

    def test_a_pit_with_other_numbers_changes_the_pit_alone(self):
        row, counts = lowest(samples.GRID, [3, -9, 0, 5, 0, 0, -2, 1, 0])
        for pit in [1, -1, 10 ** 17 - 1]:
            self.assertEqual(lowest(samples.GRID, [3, -9, 0, 5, 0, 0, -2, 1, pit]), (row[:-1] + [row[-1] + pit],
                                                                                     counts))


class MadeGood(unittest.TestCase):
    def test_by_hand(self):
        self.assertEqual(made_good(samples.ONE_PLACE, [3, -3]), (True, [0, 0], [3, 0]))
        self.assertEqual(made_good(samples.ONE_PLACE, [3, -4]), (False, [0, -1], [3, 0]))
        self.assertEqual(made_good(samples.ONE_PLACE_THREE_ROADS, [5, -3]), (True, [2, 0], [1, 0]))
        self.assertEqual(made_good(samples.ONE_PLACE_THREE_ROADS, [5, -4]), (False, [2, -1], [1, 0]))
        self.assertEqual(made_good(samples.ONE_PLACE_THREE_ROADS, [-1, 3]), (True, [2, 0], [-1, 0]))
        self.assertEqual(made_good(samples.ONE_PLACE_THREE_ROADS, [-1, 2]), (False, [2, -1], [-1, 0]))

    def test_the_three_parts(self):
        chance = random.Random(290)
        for net in NETS:
            for most in [3, 10 ** 17 - 1]:
                full = some_row(chance, net, most)
                told = made_good(net, full)
                row, counts = lowest(net, full)
                self.assertEqual((type(told), len(told)), (tuple, 3))
                self.assertIs(told[0], row[-1] >= 0, (net, full))
                self.assertEqual(told[1:], (row, counts), (net, full))

    def test_no_debts_moved_by_any_counts(self):
        chance = random.Random(291)
        for net in NETS:
            for most in [2, 10 ** 15]:
                full = [chance.choice([0, 0, 0, 1, most]) for spot in range(net[0] + 1)]
                self.assertIs(made_good(net, full)[0], True, (net, full))
                moved = samples.full_behind(net, full, some_row(chance, net, 10 ** 15))
                self.assertIs(made_good(net, moved)[0], True, (net, moved))

    def test_what_owes_at_the_pit_moved_by_any_counts(self):
        chance = random.Random(292)
        for net in NETS:
            heap = samples.toppled_one_by_one(net, [2 * span for span in samples.spans_of(net)], min)[0]
            row = [span - 1 - grains for span, grains in zip(samples.spans_of(net), heap)]
            for pit in [-1, -2, 1 - 10 ** 16]:
                moved = samples.full_behind(net, row + [pit], some_row(chance, net, 10 ** 15))
                told = made_good(net, moved)
                self.assertEqual(told[:2], (False, row + [pit]), (net, moved))

    def test_held_against_all_rows_without_debts(self):
        chance = random.Random(293)
        for net in SMALL:
            debts = samples.Debts(net)
            seen = []
            for turn in range(60):
                full = some_row(chance, net, 4)
                if sum(full) <= 7:
                    truth = debts.can_be_made_good(full)
                    self.assertIs(made_good(net, full)[0], truth, (net, full))
                    seen.append(truth)
            self.assertEqual(set(seen), {True, False}, net)

    def test_fewer_than_no_grains_in_all(self):
        chance = random.Random(294)
        for net in NETS:
            full = some_row(chance, net, 10 ** 16)
            full[chance.randint(0, net[0])] -= sum(full) + 1
            self.assertEqual(sum(full), -1)
            self.assertIs(made_good(net, full)[0], False, (net, full))


def askings(net, full):
    zeros = [0] * (net[0] + 1)
    return [lambda: full_after(net, full, zeros), lambda: full_after(net, zeros, full),
            lambda: full_after(net, full, full), lambda: lowest(net, full), lambda: made_good(net, full),
            lambda: row_worth(net, full), lambda: counterpart(net, full)]


class Refused(unittest.TestCase):
    def refuse(self, refusal, asked, about):
        with self.assertRaises(refusal, msg=about) as caught:
            asked()
        self.assertIs(type(caught.exception), refusal)

    def test_another_length(self):
        for net in NETS:
            for size in [0, 1, net[0] - 1, net[0], net[0] + 2, net[0] + 3, 20]:
                if size != net[0] + 1:
                    # Too many grains, or debts, are no matter before the length is right.
                    for full in [[0] * size, [-1] * size, [9] * size]:
                        for asked in askings(net, full):
                            self.refuse(NoRow, asked, (net, full))

    def test_a_full_row_is_no_row_in_the_sense_of_point_8(self):
        for net in samples.SMALL_NETS:
            for asked in askings(net, [-1] * (net[0] + 1)):
                asked()

    def test_a_net_with_lanes_ahead_of_all_else(self):
        for net in samples.LANE_NETS + samples.SMALL_LANE_NETS:
            for size in [0, 1, net[0], net[0] + 1, net[0] + 2]:
                for number in [0, -1, 9]:
                    for asked in askings(net, [number] * size):
                        self.refuse(NotPlain, asked, (net, size, number))
