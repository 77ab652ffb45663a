"""Points 15 and 17: products, measures, and rows shared out over tables."""

import math
import random
import unittest

from heapstill.errors import NoRings, NoRow
from heapstill.tables import measure, product, shared_out
from tests import samples

FIGURES_70 = 10 ** 70 - 1
FIGURES_30 = 10 ** 30 - 1
SIZES = range(1, 9)


def with_noughts(chance, table, share):
    return [[0 if chance.random() < share else x for x in line] for line in table]


class Products(unittest.TestCase):
    def test_by_hand(self):
        self.assertEqual(product([[3]], [[-4]]), [[-12]])
        self.assertEqual(product([[1, 2], [3, 4]], [[0, 1], [1, 0]]), [[2, 1], [4, 3]])
        self.assertEqual(product([[0, 1], [1, 0]], [[1, 2], [3, 4]]), [[3, 4], [1, 2]])
        self.assertEqual(product([[1, -2], [0, 5]], [[2, 0], [7, 1]]), [[-12, -2], [35, 5]])

    def test_by_ones_and_noughts(self):
        chance = random.Random(150)
        for size in SIZES:
            table = samples.some_table(chance, size, FIGURES_70)
            self.assertEqual(product(table, samples.ones(size)), table)
            self.assertEqual(product(samples.ones(size), table), table)
            noughts = [[0] * size for line in table]
            self.assertEqual(product(table, noughts), noughts)

    def test_held_against_the_words(self):
        chance = random.Random(151)
        for size in SIZES:
            for most in [2, 10 ** 6, FIGURES_70]:
                one = samples.some_table(chance, size, most)
                other = samples.some_table(chance, size, most)
                self.assertEqual(product(one, other), samples.product_by_words(one, other))

    def test_one_table_by_itself(self):
        table = [[1, 1], [1, 0]]
        self.assertEqual(product(table, table), [[2, 1], [1, 1]])
        self.assertEqual(table, [[1, 1], [1, 0]])


class Measures(unittest.TestCase):
    def hold_against_sum(self, table):
        told = measure(table)
        self.assertIs(type(told), int)
        self.assertEqual(told, samples.measure_by_sum(table), table)

    def test_by_hand(self):
        self.assertEqual(measure([[7]]), 7)
        self.assertEqual(measure([[-7]]), -7)
        self.assertEqual(measure([[0]]), 0)
        self.assertEqual(measure([[1, 2], [3, 4]]), -2)
        self.assertEqual(measure([[0, 1], [1, 0]]), -1)
        self.assertEqual(measure([[0, 2], [3, 0]]), -6)
        self.assertEqual(measure([[0, 1, 0], [0, 0, 1], [1, 0, 0]]), 1)
        self.assertEqual(measure([[2, 0, 0], [0, 3, 0], [0, 0, -5]]), -30)

    def test_places_changed_round(self):
        chance = random.Random(152)
        for size in SIZES:
            for turn in range(20):
                table = samples.ones(size)
                chance.shuffle(table)
                self.hold_against_sum(table)

    def test_numbers_of_all_sizes(self):
        chance = random.Random(153)
        for size in SIZES:
            for most in [1, 2, 9, 10 ** 18, FIGURES_70]:
                for turn in range(6):
                    self.hold_against_sum(samples.some_table(chance, size, most))
            self.hold_against_sum([[FIGURES_70] * size for line in range(size)])

    def test_noughts_at_any_place(self):
        chance = random.Random(154)
        for size in SIZES:
            for share in [0.2, 0.5, 0.8]:
                for most in [1, 5, FIGURES_70]:
                    for turn in range(8):
                        self.hold_against_sum(with_noughts(chance, samples.some_table(chance, size, most), share))

    def test_one_nought(self):
        chance = random.Random(155)
        for size in [2, 3, 4]:
            for i in range(size):
                for j in range(size):
                    table = samples.some_table(chance, size, 9)
                    table[i][j] = 0
                    self.hold_against_sum(table)

    def test_noughts_at_the_beginning_of_rows(self):
        self.hold_against_sum([[0, 0, 3], [0, 2, 5], [4, 1, 1]])
        self.hold_against_sum([[0, 1, 2], [0, 3, 4], [5, 6, 7]])
        self.hold_against_sum([[1, 1, 2], [1, 1, 3], [5, 6, 7]])
        self.hold_against_sum([[0, 1, 1, 1], [1, 0, 1, 1], [1, 1, 0, 1], [1, 1, 1, 0]])

    def test_rows_alike(self):
        chance = random.Random(156)
        for size in range(2, 9):
            for most in [3, FIGURES_70]:
                table = samples.some_table(chance, size, most)
                one, other = chance.sample(range(size), 2)
                table[one] = list(table[other])
                self.assertEqual(measure(table), 0)
                self.hold_against_sum(table)

    def test_a_row_or_a_column_of_noughts(self):
        chance = random.Random(157)
        for size in SIZES:
            for at in range(size):
                table = samples.some_table(chance, size, FIGURES_70)
                table[at] = [0] * size
                self.assertEqual(measure(table), 0)
                self.assertEqual(measure([list(line) for line in zip(*table)]), 0)

    def test_a_row_made_of_others(self):
        chance = random.Random(158)
        for size in range(3, 9):
            table = samples.some_table(chance, size, 10 ** 30)
            table[-1] = [3 * x - 2 * y for x, y in zip(table[0], table[1])]
            self.assertEqual(measure(table), 0)


class SharedOut(unittest.TestCase):
    def hold_against_words(self, table, row):
        told = shared_out(table, row)
        self.assertEqual([type(told), type(told[0]), type(told[1])], [tuple, list, int])
        tops, bottom = told
        self.assertEqual(len(tops), len(table))
        self.assertGreaterEqual(bottom, 1)
        self.assertEqual(math.gcd(bottom, *tops), 1, (table, row))
        for at, number in enumerate(row):
            self.assertEqual(sum(top * line[at] for top, line in zip(tops, table)), bottom * number, (table, row))

    def test_by_hand(self):
        self.assertEqual(shared_out([[3]], [6]), ([2], 1))
        self.assertEqual(shared_out([[6]], [4]), ([2], 3))
        self.assertEqual(shared_out([[-6]], [4]), ([-2], 3))
        self.assertEqual(shared_out([[-6]], [-3]), ([1], 2))
        self.assertEqual(shared_out([[1, 1], [0, 2]], [1, 2]), ([2, 1], 2))
        self.assertEqual(shared_out([[0, 1], [1, 0]], [5, -7]), ([-7, 5], 1))
        self.assertEqual(shared_out([[2, 0], [0, 4]], [1, 1]), ([2, 1], 4))

    def test_rows_and_columns_are_not_mixed_up(self):
        self.assertEqual(shared_out([[1, 2], [0, 1]], [1, 0]), ([1, -2], 1))
        self.assertEqual(shared_out([[1, 0], [2, 1]], [1, 0]), ([1, 0], 1))

    def test_a_row_of_noughts(self):
        chance = random.Random(170)
        for size in SIZES:
            for table in [samples.some_table(chance, size, FIGURES_30), samples.ones(size)]:
                self.assertEqual(shared_out(table, [0] * size), ([0] * size, 1))

    def test_a_row_of_the_table(self):
        chance = random.Random(171)
        for size in SIZES:
            table = samples.some_table(chance, size, FIGURES_30)
            for at, line in enumerate(table):
                self.assertEqual(shared_out(table, line), (samples.ones(size)[at], 1))

    def test_held_against_the_words(self):
        chance = random.Random(172)
        for size in SIZES:
            for most in [1, 4, 10 ** 9, FIGURES_30]:
                for share in [0, 0.4]:
                    for turn in range(4):
                        table = with_noughts(chance, samples.some_table(chance, size, most), share)
                        row = [chance.randint(-most, most) for at in range(size)]
                        if samples.measure_by_sum(table) != 0:
                            self.hold_against_words(table, row)

    def test_measure_below_0(self):
        for table in [[[-1]], [[-5]], [[1, 2], [3, 4]], [[0, 3], [2, 0]]]:
            for row in [[1, 1], [2, -3], [-4, -6], [0, 5]]:
                self.hold_against_words(table, row[:len(table)])

    def test_measure_0(self):
        for table in [[[0]], [[1, 2], [2, 4]], [[0, 0], [0, 0]], [[1, 1, 1], [2, 3, 4], [3, 4, 5]], [[0] * 8] * 8]:
            for row in [[0] * len(table), [1] * len(table), [-FIGURES_30] * len(table), list(table[0])]:
                with self.assertRaises(NoRings, msg=(table, row)):
                    shared_out(table, row)

    def test_a_row_of_another_length(self):
        for table in [[[1]], [[1, 2], [3, 4]], samples.ones(8)]:
            for length in range(10):
                if length != len(table):
                    with self.assertRaises(NoRow, msg=(table, length)):
                        shared_out(table, [1] * length)

    def test_both_at_once(self):
        for table in [[[0]], [[1, 2], [2, 4]], [[0, 0], [0, 0]]]:
            for row in [[], [0] * 3, [1] * 8]:
                with self.assertRaises(NoRow, msg=(table, row)):
                    shared_out(table, row)
