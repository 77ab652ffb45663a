"""Point 16: the rings of a table, held against every sentence of the point."""

import itertools
import math
import random
import unittest

from heapstill.errors import NoRings
from heapstill.smith import ring_tables
from tests import samples

FIGURES_30 = 10 ** 30 - 1
SIZES = range(1, 9)


def diagonal(numbers):
    return [[number if i == j else 0 for j in range(len(numbers))] for i, number in enumerate(numbers)]


def lengths_by_parts(table):
    """The middle entries in another way: the measures of all parts of k rows and columns have in common their product.
    """
    size = len(table)
    before = 1
    lengths = []
    for k in range(1, size + 1):
        found = 0
        for rows in itertools.combinations(range(size), k):
            for columns in itertools.combinations(range(size), k):
                found = math.gcd(found, samples.measure_by_sum([[table[i][j] for j in columns] for i in rows]))
        lengths.append(found // before)
        before = found
    return lengths


class Rings(unittest.TestCase):
    def hold_against_words(self, table):
        told = ring_tables(table)
        size = len(table)
        self.assertIs(type(told), tuple)
        self.assertEqual(len(told), 5)
        for part in told:
            self.assertIs(type(part), list)
            self.assertEqual([(type(line), len(line)) for line in part], [(list, size)] * size)
            self.assertEqual({type(number) for line in part for number in line}, {int})
            self.assertLess(max(abs(number) for line in part for number in line), 10 ** 4000)
        left, middle, right, left_back, right_back = told
        by_words = samples.product_by_words
        self.assertEqual(by_words(by_words(left, table), right), middle, table)
        self.assertEqual(by_words(left, left_back), samples.ones(size), table)
        self.assertEqual(by_words(right, right_back), samples.ones(size), table)
        lengths = [middle[at][at] for at in range(size)]
        self.assertEqual(middle, diagonal(lengths), table)
        self.assertGreaterEqual(min(lengths), 1)
        for one, other in zip(lengths, lengths[1:]):
            self.assertEqual(other % one, 0, table)
        return lengths

    def test_one_by_one(self):
        for number in [1, -1, 2, -2, 12, FIGURES_30, -FIGURES_30]:
            self.assertEqual(self.hold_against_words([[number]]), [abs(number)])

    def test_lengths_by_hand(self):
        for table, lengths in [([[2, 0], [0, 3]], [1, 6]), ([[2, 0], [0, 2]], [2, 2]), ([[4, 0], [0, 6]], [2, 12]),
                               ([[0, 1], [1, 0]], [1, 1]), ([[6, 0], [0, 2]], [2, 6]), ([[2, 4], [6, 8]], [2, 4]),
                               ([[3, -1, -1], [-1, 3, -1], [-1, -1, 3]], [1, 4, 4]),
                               ([[6, 0, 0], [0, 10, 0], [0, 0, 15]], [1, 30, 30]),
                               ([[2, 4, 4], [-6, 6, 12], [10, -4, -16]], [2, 6, 12]),
                               ([[0, 0, 5], [0, -5, 0], [5, 0, 0]], [5, 5, 5])]:
            self.assertEqual(self.hold_against_words(table), lengths, table)

    def test_entries_at_i_i_alone(self):
        chance = random.Random(160)
        for size in SIZES:
            for choices in [[1, -1], [1, 2, 3, 5], [2, 4, 8, -16], [6, 10, 15, 30], [1, 12, 18, FIGURES_30]]:
                numbers = [chance.choice(choices) for at in range(size)]
                lengths = self.hold_against_words(diagonal(numbers))
                self.assertEqual(math.prod(lengths), abs(math.prod(numbers)))

    def test_small_tables_against_their_parts(self):
        chance = random.Random(161)
        for size in range(1, 5):
            for most in [1, 2, 6, 60]:
                for turn in range(15):
                    table = samples.some_table(chance, size, most)
                    factor = chance.choice([1, 1, 2, 6])
                    table[0] = [factor * number for number in table[0]]
                    if samples.measure_by_sum(table) != 0:
                        self.assertEqual(self.hold_against_words(table), lengths_by_parts(table), table)

    def test_every_table_of_two_rows_of_small_numbers(self):
        for a, b, c, d in itertools.product(range(-3, 4), repeat=4):
            if a * d != b * c:
                lengths = self.hold_against_words([[a, b], [c, d]])
                first = math.gcd(a, b, c, d)
                self.assertEqual(lengths, [first, abs(a * d - b * c) // first])

    def test_numbers_of_all_sizes(self):
        chance = random.Random(162)
        for size in SIZES:
            for most in [3, 10 ** 6, FIGURES_30]:
                for turn in range(5):
                    table = samples.some_table(chance, size, most)
                    told = samples.measure_by_sum(table)
                    if told != 0:
                        self.assertEqual(math.prod(self.hold_against_words(table)), abs(told))

    def test_measure_1_and_below_0(self):
        chance = random.Random(163)
        for size in range(2, 9):
            for sign in [1, -1]:
                for most in [50, FIGURES_30]:
                    start = diagonal([1] * (size - 1) + [sign])
                    table = samples.with_lines_mixed(chance, start, most)
                    self.assertEqual(abs(samples.measure_by_sum(table)), 1)
                    self.assertEqual(self.hold_against_words(table), [1] * size)

    def test_known_lengths_hidden_by_mixing(self):
        chance = random.Random(164)
        for size in range(2, 9):
            for factors in [[1, 2, 3], [1, 1, 1, 6], [2, 4], [30, 1], [10 ** 3], [1, 7 ** 5]]:
                lengths = [chance.choice(factors)]
                while len(lengths) < size:
                    lengths.append(lengths[-1] * chance.choice(factors))
                if max(lengths) < FIGURES_30:
                    table = samples.with_lines_mixed(chance, diagonal(lengths), FIGURES_30)
                    self.assertEqual(self.hold_against_words(table), lengths)

    def test_unlike_primes_hidden_by_mixing(self):
        chance = random.Random(165)
        for size in range(2, 9):
            for choices in [[2, 3, 5, 7, 11, 13], [6, 10, 15], [30030, 9699690, 2 ** 20], [2 ** 60, 3 ** 40, 10 ** 20]]:
                numbers = [chance.choice(choices) for at in range(size)]
                table = samples.with_lines_mixed(chance, diagonal(numbers), FIGURES_30)
                lengths = self.hold_against_words(table)
                self.assertEqual(math.prod(lengths), math.prod(numbers))
                self.assertEqual(lengths[-1], math.lcm(*numbers))
                self.assertEqual(lengths[0], math.gcd(*numbers))

    def test_powers_all_over(self):
        chance = random.Random(166)
        choices = [2 ** 90, 2 ** 97, 3 ** 60, 6 ** 30, 10 ** 29, 30030 ** 6, 5, 1, 210, 2 ** 50 * 3 ** 20]
        for size in SIZES:
            for turn in range(6):
                table = [[chance.choice(choices) for j in range(size)] for i in range(size)]
                if samples.measure_by_sum(table) != 0:
                    self.hold_against_words(table)
                self.hold_against_words([[x if i <= j else 0 for j, x in enumerate(line)] for i, line in enumerate(table)])


class Refused(unittest.TestCase):
    def test_measure_0(self):
        chance = random.Random(167)
        tables = [[[0]], [[0, 0], [0, 0]], [[1, 2], [2, 4]], [[0, 1], [0, 5]], [[1, 1, 1], [2, 3, 4], [3, 4, 5]]]
        for size in range(2, 9):
            table = samples.some_table(chance, size, FIGURES_30)
            table[-1] = [-number for number in table[0]]
            tables += [table, [list(line) for line in zip(*table)]]
        for table in tables:
            with self.assertRaises(NoRings, msg=table):
                ring_tables(table)
