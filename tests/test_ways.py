"""Point 11, and of point 3 the order of topplings: ways of toppling, and heaps run by them."""

import itertools
import random
import unittest

from heapstill.errors import NoHeap, NoRow, TooMany
from heapstill.ways import Picked, Together, Way, run
from tests import samples

GREAT = 10 ** 20
HUGE = 10 ** 299


class LastOne(Way):
    """A way that the program does not know."""

    def chosen(self, net, heap):
        return samples.may_topple(net, heap)[-1:]


def fresh_ways(picks):
    return [Way(), Together(), Picked(picks), Picked([]), LastOne()]


def some_picks(chance, how_many):
    return [chance.randrange(chance.choice([3, 9, HUGE])) for turn in range(how_many)]


class Chosen(unittest.TestCase):
    def test_by_hand(self):
        net = samples.STAR
        for heap, plain, together in [([0, 0, 0, 0], [], []), ([0, 0, 1, 0], [2], [2]), ([0, 1, 0, 7], [1], [1, 3]),
                                      ([1, 1, 1, 1], [0], [0, 1, 2, 3])]:
            self.assertEqual(Way().chosen(net, heap), plain)
            self.assertEqual(Together().chosen(net, heap), together)

    def test_picked_by_hand(self):
        way = Picked([1, 0, 2, 3, 4, 5, 7])
        told = [way.chosen(samples.STAR, [1, 0, 1, 1]) for turn in range(9)]
        self.assertEqual(told, [[2], [0], [3], [0], [2], [3], [2], [0], [0]])

    def test_just_the_span_is_enough(self):
        for net in samples.ALL_NETS:
            spans = samples.spans_of(net)
            for place in range(net[0]):
                heap = [span - 1 for span in spans]
                heap[place] += 1
                for way in [Way(), Together(), Picked([]), Picked([5])]:
                    self.assertEqual(way.chosen(net, heap), [place], (net, heap))
                heap[place] -= 1
                for way in [Way(), Together(), Picked([]), Picked([5])]:
                    self.assertEqual(way.chosen(net, heap), [], (net, heap))

    def test_held_against_the_words(self):
        chance = random.Random(110)
        for net in samples.ALL_NETS + samples.some_nets(111, 60, 0) + samples.some_nets(112, 60, 9):
            heap = [chance.randint(0, 2 * span) for span in samples.spans_of(net)]
            may = samples.may_topple(net, heap)
            pick = chance.randint(0, HUGE)
            self.assertEqual(Way().chosen(net, heap), may[:1], (net, heap))
            self.assertEqual(Together().chosen(net, heap), may, (net, heap))
            self.assertEqual(Picked([pick]).chosen(net, heap), [may[pick % len(may)]] if may else [], (net, heap))

    def test_kinds(self):
        for made in [Together, Picked]:
            self.assertTrue(issubclass(made, Way))
        for way in [Way(), Together(), Picked([1])]:
            for heap in [[0, 0, 0, 0], [1, 1, 1, 1]]:
                told = way.chosen(samples.STAR, heap)
                self.assertIs(type(told), list)
                self.assertEqual([type(place) for place in told], [int] * len(told))


class Picks(unittest.TestCase):
    def test_none_at_all(self):
        way = Picked([])
        self.assertEqual([way.chosen(samples.STAR, [0, 1, 1, 1]) for turn in range(3)], [[1]] * 3)

    def test_at_an_end(self):
        way = Picked([2, 1])
        self.assertEqual([way.chosen(samples.STAR, [1, 1, 1, 1]) for turn in range(5)], [[2], [1], [0], [0], [0]])

    def test_far_above_the_number_of_places(self):
        way = Picked([HUGE, HUGE + 1, HUGE + 2, 4 * HUGE + 3])
        told = [way.chosen(samples.STAR, [1, 1, 0, 1]) for turn in range(4)]
        self.assertEqual(told, [[[0, 1, 3][pick % 3]] for pick in [HUGE, HUGE + 1, HUGE + 2, 4 * HUGE + 3]])

    def test_by_those_that_may_just_then(self):
        way = Picked([5, 5, 5, 5])
        told = [way.chosen(samples.STAR, heap) for heap in [[1, 1, 1, 1], [1, 1, 0, 1], [1, 0, 0, 1], [0, 0, 1, 0]]]
        self.assertEqual(told, [[1], [3], [3], [2]])

    def test_where_none_may_no_pick_is_used(self):
        way = Picked([3, 2])
        self.assertEqual(way.chosen(samples.STAR, [0, 0, 0, 0]), [])
        self.assertEqual(way.chosen(samples.STAR, [1, 1, 1, 1]), [3])
        for turn in range(5):
            self.assertEqual(way.chosen(samples.STAR, [0, 0, 0, 0]), [])
        self.assertEqual(way.chosen(samples.STAR, [1, 1, 1, 1]), [2])

    def test_refused_no_pick_is_used(self):
        way = Picked([3, 2])
        for heap, refusal in [([1, 1, 1], NoRow), ([1, 1, 1, -1], NoHeap), ([1, 1, 1, 1, -1], NoRow)]:
            with self.assertRaises(refusal):
                way.chosen(samples.STAR, heap)
            with self.assertRaises(refusal):
                run(samples.STAR, heap, way)
        self.assertEqual(way.chosen(samples.STAR, [1, 1, 1, 1]), [3])
        with self.assertRaises(NoRow):
            way.chosen(samples.STAR, [])
        self.assertEqual(way.chosen(samples.STAR, [1, 1, 1, 1]), [2])

    def test_from_run_to_run_and_from_net_to_net(self):
        way = Picked([1, 1, 0, 3, 1])
        self.assertEqual(run(samples.STAR, [1, 0, 1, 1], way)[2], [[2], [3], [0]])
        self.assertEqual(way.chosen(samples.STAR, [1, 1, 1, 1]), [3])
        self.assertEqual(run(samples.UPSTREAM, [2, 1], way)[2], [[1], [0], [1], [1]])

    def test_changed_behind_the_making(self):
        picks = [3, 2, 1]
        way = Picked(picks)
        self.assertEqual(way.chosen(samples.STAR, [1, 1, 1, 1]), [3])
        picks[1] = 0
        picks.append(2)
        picks.insert(0, 1)
        self.assertEqual([way.chosen(samples.STAR, [1, 1, 1, 1]) for turn in range(3)], [[2], [1], [0]])
        self.assertEqual(picks, [1, 3, 0, 1, 2])

    def test_two_beside_one_another(self):
        picks = [3, 2, 1, 3]
        one = Picked(picks)
        other = Picked(picks)
        heap = [1, 1, 1, 1]
        self.assertEqual([one.chosen(samples.STAR, heap) for turn in range(2)], [[3], [2]])
        self.assertEqual([other.chosen(samples.STAR, heap) for turn in range(3)], [[3], [2], [1]])
        self.assertEqual([one.chosen(samples.STAR, heap) for turn in range(3)], [[1], [3], [0]])
        self.assertEqual(other.chosen(samples.STAR, heap), [3])
        self.assertEqual(picks, [3, 2, 1, 3])

    def test_the_other_ways_keep_nothing(self):
        for way in [Way(), Together()]:
            first = run(samples.STAR, [2, 1, 0, 3], way)
            self.assertEqual(run(samples.STAR, [2, 1, 0, 3], way), first)


class Run(unittest.TestCase):
    def hold_against_turns(self, net, heap, way, told):
        """The turns told, toppled one by one, each place just when it may, lead to the heap and the counts told."""
        row = list(heap)
        counts = [0] * net[0]
        for places in told[2]:
            self.assertNotEqual(places, [])
            for place in places:
                self.assertGreaterEqual(row[place], samples.span_of(net, place), (net, heap, way))
                row = [grains + gain for grains, gain in zip(row, samples.toll_of(net, place))]
                counts[place] += 1
        self.assertEqual(told[:2], (row, counts), (net, heap, way))
        self.assertEqual(samples.may_topple(net, row), [], (net, heap, way))

    def hold_turns_against_words(self, net, heap, picks, told):
        """The turns of the plain way, the way together and the picked way, each one told anew by the words."""
        waiting = [list(heap), list(heap), list(heap)]
        for at, turns in enumerate(told):
            left = list(picks)
            for places in turns:
                may = samples.may_topple(net, waiting[at])
                pick = left.pop(0) if left else 0
                self.assertEqual(places, [may[:1], may, [may[pick % len(may)]]][at], (net, heap, picks))
                for place in places:
                    waiting[at] = [x + gain for x, gain in zip(waiting[at], samples.toll_of(net, place))]

    def test_by_hand(self):
        self.assertEqual(run(samples.PATH, [1, 1, 0], Way()), ([0, 1, 1], [2, 1, 0], [[0], [1], [0]]))
        self.assertEqual(run(samples.STAR, [2, 0, 1, 0], Together()), ([0] * 4, [2, 0, 1, 0], [[0, 2], [0]]))
        self.assertEqual(run(samples.STAR, [2, 0, 1, 0], Way()), ([0] * 4, [2, 0, 1, 0], [[0], [0], [2]]))
        self.assertEqual(run(samples.STAR, [2, 0, 1, 0], Picked([1, 7])), ([0] * 4, [2, 0, 1, 0], [[2], [0], [0]]))

    def test_still_already(self):
        for net in samples.ALL_NETS:
            for heap in [[0] * net[0], [span - 1 for span in samples.spans_of(net)]]:
                for way in fresh_ways([1]):
                    self.assertEqual(run(net, heap, way), (heap, [0] * net[0], []))

    def test_small_heaps_of_some_nets_by_every_way(self):
        chance = random.Random(113)
        for net in [samples.PATH, samples.TRIANGLE, samples.LANES_ALONE, samples.ROADS_AND_LANES]:
            for heap in itertools.product(range(4), repeat=3):
                picks = some_picks(chance, 6)
                for way in fresh_ways(picks):
                    self.hold_against_turns(net, list(heap), way, run(net, list(heap), way))

    def test_nets_of_all_sizes(self):
        chance = random.Random(114)
        for net in samples.some_nets(115, 40, 0) + samples.some_nets(116, 40, 9):
            heap = [chance.randint(0, span + 1) for span in samples.spans_of(net)]
            slow = samples.toppled_one_by_one(net, heap, min)
            if sum(slow[1]) > 300:
                continue
            picks = some_picks(chance, chance.randint(0, 40))
            told = [run(net, heap, way) for way in fresh_ways(picks)]
            for each in told:
                self.hold_against_turns(net, heap, None, each)
                self.assertEqual(each[:2], slow, (net, heap))
            self.hold_turns_against_words(net, heap, picks, [each[2] for each in told[:3]])

    def test_a_way_of_ones_own(self):
        self.assertEqual(run(samples.STAR, [1, 0, 2, 0], LastOne()), ([0] * 4, [1, 0, 2, 0], [[2], [2], [0]]))

    def test_kinds(self):
        for way in fresh_ways([2]):
            told = run(samples.TRIANGLE, [3, 3, 3], way)
            self.assertIs(type(told), tuple)
            self.assertEqual([type(part) for part in told], [list] * 3)
            self.assertEqual({type(places) for places in told[2]}, {list})
            self.assertEqual({type(x) for part in told[:2] + tuple(told[2]) for x in part}, {int})


class TooManyTopplings(unittest.TestCase):
    taken = [(samples.ONE_PLACE, [2000]), (samples.ONE_PLACE_THREE_ROADS, [6002]), (samples.STAR, [500] * 4),
             (samples.STAR, [0, 1999, 0, 1]), (samples.UPSTREAM, [1332, 2]), (samples.ONE_LANE, [2000])]
    refused = [(samples.ONE_PLACE, [2001]), (samples.ONE_PLACE_THREE_ROADS, [6003]), (samples.STAR, [500, 500, 500, 501]),
               (samples.STAR, [0, 1999, 0, 2]), (samples.UPSTREAM, [1332, 3]), (samples.ONE_LANE, [2001]),
               (samples.STAR, [501] * 4), (samples.GRID, [GREAT] * 8), (samples.COMES_BACK, [HUGE] * 8)]

    def test_just_2000_are_taken(self):
        for net, heap in self.taken:
            slow = samples.toppled_one_by_one(net, heap, min)
            self.assertEqual(sum(slow[1]), 2000)
            for way in fresh_ways([1, 3, 2]):
                told = run(net, heap, way)
                self.assertEqual(told[:2], slow, (net, heap))
                self.assertEqual(sum(len(places) for places in told[2]), 2000)

    def test_more_are_refused(self):
        for net, heap in self.refused:
            for way in fresh_ways([1, 3, 2]):
                with self.assertRaises(TooMany, msg=(net, heap, way)):
                    run(net, heap, way)

    def test_held_against_counts_round_the_limit(self):
        net = (4, [(0, 1), (1, 2), (2, 3), (0, 3), (0, 2), (3, 4), (1, 4)], [])
        beyond = []
        for grains in range(300, 1500, 25):
            heap = [grains, 1, grains % 7, 2]
            slow = samples.toppled_one_by_one(net, heap, min)
            beyond.append(sum(slow[1]) > 2000)
            for way in [Way(), Together(), Picked([2, 1, 2])]:
                if beyond[-1]:
                    with self.assertRaises(TooMany, msg=heap):
                        run(net, heap, way)
                else:
                    self.assertEqual(run(net, heap, way)[:2], slow, heap)
        self.assertEqual(set(beyond), {True, False})


class Refused(unittest.TestCase):
    def refuse(self, refusal, net, heap):
        for way in [Way(), Together(), Picked([]), Picked([1, 2])]:
            with self.assertRaises(refusal, msg=(net, heap)):
                way.chosen(net, heap)
        for way in fresh_ways([1, 2]):
            with self.assertRaises(refusal, msg=(net, heap)):
                run(net, heap, way)

    def test_too_long_or_too_short(self):
        for net in [samples.PATH, samples.ROADS_AND_LANES]:
            for heap in [[], [1], [1, 2], [1, 2, 3, 4], [0] * 8, [HUGE] * 4]:
                self.refuse(NoRow, net, heap)

    def test_a_number_below_0(self):
        for net in [samples.PATH, samples.ROADS_AND_LANES]:
            for heap in [[-1, 0, 0], [0, -1, 0], [0, 0, -1], [9, 9, -1], [-HUGE, HUGE, HUGE]]:
                self.refuse(NoHeap, net, heap)

    def test_both_at_once(self):
        for net in [samples.PATH, samples.ROADS_AND_LANES]:
            for heap in [[-1], [-1, 0], [0, 0, 0, -1], [-1, 0, 0, 0]]:
                self.refuse(NoRow, net, heap)
