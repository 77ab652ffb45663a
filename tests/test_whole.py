"""Point 3, the promise over the whole program: by its functions together, and once more from texts alone, by a desk."""

import itertools
import math
import random
import unittest

from heapstill.alike import told_alike
from heapstill.debts import full_after, lowest, made_good
from heapstill.desk import Desk
from heapstill.errors import NotAgain, NotPlain
from heapstill.fire import comes_again, fire
from heapstill.rings import all_again, heap_at, how_many, ring_lengths, ring_place
from heapstill.still import still
from heapstill.sums import again, contrary, heap_sum, nought, times
from heapstill.texts import net_text, read_net, read_row, row_text
from heapstill.tolls import after, span_list, toll_table
from heapstill.trees import all_trees, heap_of, tree_of
from heapstill.ways import Picked, Together, Way, run
from heapstill.worth import counterpart, row_worth
from tests import samples

PLAIN = [net for net in samples.SMALL_NETS + samples.some_nets(30, 25, 0, 4)
         if len(samples.heaps_that_come_again(net)) <= 60]
LANES = [net for net in samples.SMALL_LANE_NETS + samples.some_nets(31, 25, 4, 4)
         if net[2] and len(samples.heaps_that_come_again(net)) <= 60]


def weighed(tops, row):
    return sum(top * number for top, number in zip(tops, row))


def added(one, other):
    return [x + y for x, y in zip(one, other)]


class ByFunctions(unittest.TestCase):
    def test_in_whatever_order_places_topple(self):
        chance = random.Random(32)
        for net in PLAIN + LANES:
            for turn in range(4):
                heap = [chance.randint(0, 2 * span) for span in span_list(net)]
                told = still(net, heap)
                if sum(told[1]) > 2000:
                    continue
                for way in [Way(), Together(), Picked([chance.randint(0, 9) for pick in range(40)]), Picked([1] * 90)]:
                    self.assertEqual(run(net, heap, way)[:2], told, (net, heap))

    def test_no_counts_are_less(self):
        for net in PLAIN[:8] + LANES[:8]:
            if net[0] > 3:
                continue
            for heap in [[span + 1 for span in span_list(net)], [2 * span - 1 for span in span_list(net)]]:
                least = still(net, heap)[1]
                for counts in itertools.product(*[range(min(count, 7) + 2) for count in least]):
                    if all(grains < span for grains, span in zip(after(net, heap, list(counts)), span_list(net))):
                        self.assertTrue(all(x >= y for x, y in zip(counts, least)), (net, heap, counts))

    def test_a_still_heap_comes_again_just_where_it_burns(self):
        for net in PLAIN:
            comes = all_again(net)
            for heap in samples.still_heaps(net)[:200]:
                rounds = fire(net, heap)
                self.assertEqual(None not in rounds, heap in comes, (net, heap))
                self.assertEqual(comes_again(net, heap), heap in comes, (net, heap))
                bar = [place for place, turn in enumerate(rounds) if turn is None]
                for place in bar:
                    self.assertLess(heap[place], samples.roads_to(net, place, bar), (net, heap))

    def test_two_rows_lead_to_one_another_or_a_weighing_parts_them(self):
        chance = random.Random(33)
        for net in PLAIN + LANES:
            for turn in range(6):
                one, other = [[chance.randint(-9, 9) for place in range(net[0])] for row in range(2)]
                told = told_alike(net, one, other)
                if told[0] == "alike":
                    self.assertEqual(after(net, one, told[1]), other)
                else:
                    less = [y - x for x, y in zip(one, other)]
                    self.assertEqual({weighed(told[1], toll) % told[2] for toll in toll_table(net)}, {0})
                    self.assertNotEqual(weighed(told[1], less) % told[2], 0)
                self.assertEqual(told[0] == "alike", again(net, one)[0] == again(net, other)[0], (net, one, other))

    def test_to_each_row_just_one_heap(self):
        chance = random.Random(34)
        for net in PLAIN + LANES:
            row = [chance.randint(-10 ** 18, 10 ** 18) for place in range(net[0])]
            alike = [heap for heap in all_again(net) if told_alike(net, row, heap)[0] == "alike"]
            heap, counts = again(net, row)
            self.assertEqual(alike, [heap], (net, row))
            self.assertEqual(after(net, row, counts), heap, (net, row))

    def test_these_heaps_add_up_and_fall_into_rings(self):
        for net in PLAIN + LANES:
            heaps = all_again(net)
            lengths = ring_lengths(net)
            self.assertEqual((len(heaps), math.prod(lengths)), (how_many(net), how_many(net)), net)
            places = [ring_place(net, heap) for heap in heaps]
            self.assertEqual(sorted(places), [list(place) for place in itertools.product(*map(range, lengths))], net)
            for heap, place in list(zip(heaps, places))[:20]:
                self.assertEqual(heap_at(net, place), heap, net)
                self.assertEqual(heap_sum(net, heap, nought(net)), heap, net)
                self.assertEqual(heap_sum(net, heap, contrary(net, heap)), nought(net), net)
                self.assertEqual(times(net, heap, how_many(net)), nought(net), net)
                for other, there in list(zip(heaps, places))[:8]:
                    total = [number % length for number, length in zip(added(place, there), lengths)]
                    self.assertEqual(ring_place(net, heap_sum(net, heap, other)), total, net)

    def test_each_is_told_by_one_tree_and_back(self):
        for net in PLAIN:
            trees = [tree_of(net, heap) for heap in all_again(net)]
            self.assertEqual(sorted(trees), all_trees(net), net)
            self.assertEqual(sorted(heap_of(net, tree) for tree in trees), all_again(net), net)
            self.assertEqual(len({tuple(tree) for tree in trees}), how_many(net), net)

    def test_debts_and_worth(self):
        chance = random.Random(35)
        for net in PLAIN:
            more = net[0] + 1 - len(net[1])
            for turn in range(8):
                full = [chance.randint(-3, 3) for spot in range(net[0] + 1)]
                truth, row, counts = made_good(net, full)
                self.assertEqual((row, counts), lowest(net, full))
                self.assertEqual(full_after(net, full, counts), row)
                self.assertIs(truth, row[-1] >= 0)
                other = counterpart(net, full)
                if max(sum(full), sum(other)) <= 6:
                    self.assertEqual(row_worth(net, full) >= 0, truth, (net, full))
                    self.assertEqual(row_worth(net, full) - row_worth(net, other), sum(full) + more, (net, full))


class ByADesk(unittest.TestCase):
    """All that is known here comes from a desk's answers, and goes to it as texts."""

    def desk_of(self, net):
        desk = Desk()
        self.assertEqual(desk.say("net " + net_text(net)), "ok")
        return desk

    def keep(self, desk, name, row):
        self.assertEqual(desk.say(f"heap {name} {row_text(row)}"), "ok")
        return name

    def told(self, desk, command):
        """Numbers of an answer; counts may be longer than what read_row takes."""
        answer = desk.say(command)
        row = [int(word) for word in answer.split()]
        if max(row, default=0) < 10 ** 18:
            self.assertEqual(read_row(answer), row)
        return row

    def all_still(self, desk, net):
        """All still heaps, each by the name s when it is told."""
        for heap in itertools.product(*[range(span) for span in samples.spans_of(net)]):
            self.keep(desk, "s", list(heap))
            self.assertEqual(self.told(desk, "still s"), list(heap))
            self.assertEqual(self.told(desk, "counts s"), [0] * net[0])
            yield list(heap)

    def test_still_heaps_and_counts(self):
        chance = random.Random(36)
        for net in PLAIN + LANES:
            desk = self.desk_of(net)
            for most in [3, 20, 10 ** 18 - 1]:
                heap = [chance.randint(0, most) for place in range(net[0])]
                self.keep(desk, "a", heap)
                rest, counts = self.told(desk, "still a"), self.told(desk, "counts a")
                self.assertEqual(samples.row_behind(net, heap, counts), rest, net)
                self.keep(desk, "b", rest)
                self.assertEqual(desk.say("alike a b"), "yes")
                self.assertEqual(self.told(desk, "place a"), self.told(desk, "place b"))
                self.assertEqual(self.told(desk, "still b"), rest)
                self.assertEqual(self.told(desk, "counts b"), [0] * net[0])

    def test_heaps_that_come_again_rings_and_places(self):
        for net in PLAIN + LANES:
            if math.prod(samples.spans_of(net)) > 150:
                continue
            desk = self.desk_of(net)
            lengths = self.told(desk, "rings")
            comes = [heap for heap in self.all_still(desk, net) if desk.say("comes s") == "yes"]
            self.assertEqual(str(len(comes)), desk.say("many"), net)
            self.assertEqual(str(math.prod(lengths)), desk.say("many"), net)
            places = []
            for heap in comes:
                self.keep(desk, "a", heap)
                places.append(self.told(desk, "place a"))
            self.assertEqual(sorted(places), [list(place) for place in itertools.product(*map(range, lengths))], net)
            self.assertIn(self.told(desk, "nought"), comes, net)
            # Each still heap is alike to just one of these, and there it is in the rings.
            for heap in list(self.all_still(desk, net))[:40]:
                self.keep(desk, "s", heap)
                alike = [other for other in comes if desk.say("alike s " + self.keep(desk, "t", other)) == "yes"]
                self.assertEqual(desk.say("again u s"), "ok")
                self.assertEqual(alike, [self.told(desk, "show u")], (net, heap))
                self.assertEqual(self.told(desk, "place s"), places[comes.index(alike[0])], (net, heap))

    def test_sums_and_the_heap_that_adds_nothing(self):
        chance = random.Random(37)
        for net in PLAIN + LANES:
            desk = self.desk_of(net)
            lengths = self.told(desk, "rings")
            self.keep(desk, "zero", self.told(desk, "nought"))
            self.assertEqual(self.told(desk, "place zero"), [0] * len(lengths))
            for turn in range(6):
                for name in "ab":
                    self.keep(desk, name, [chance.randint(0, 30) for place in range(net[0])])
                    self.assertEqual(desk.say(f"again {name} {name}"), "ok")
                    self.assertEqual(desk.say(f"comes {name}"), "yes")
                    self.assertEqual(desk.say(f"add same {name} zero"), "ok")
                    self.assertEqual(desk.say("show same"), desk.say(f"show {name}"))
                self.assertEqual([desk.say("add c a b"), desk.say("add d b a")], ["ok", "ok"])
                self.assertEqual(desk.say("show c"), desk.say("show d"))
                self.assertEqual(desk.say("comes c"), "yes")
                places = added(self.told(desk, "place a"), self.told(desk, "place b"))
                self.assertEqual(self.told(desk, "place c"), [x % length for x, length in zip(places, lengths)], net)
                # As often added to itself as there are heaps, a heap comes back.
                desk.say("again e a")
                for more in range(int(desk.say("many"))):
                    desk.say("add e e a")
                self.assertEqual(desk.say("show e"), desk.say("show a"), net)

    def test_fire_and_trees(self):
        for net in PLAIN:
            desk = self.desk_of(net)
            trees = {}
            for heap in itertools.islice(self.all_still(desk, net), 200):
                rounds = desk.say("fire s").split(" ")
                self.assertEqual("." in rounds, desk.say("comes s") == "no", (net, heap))
                if "." in rounds:
                    with self.assertRaises(NotAgain):
                        desk.say("tree s")
                else:
                    tree = self.told(desk, "tree s")
                    self.assertEqual(heap_of(read_net(net_text(net)), tree), heap, (net, tree))
                    trees[tuple(tree)] = heap
            if math.prod(samples.spans_of(net)) <= 200:
                self.assertEqual(str(len(trees)), desk.say("many"), net)
                self.assertEqual(sorted(trees), [tuple(tree) for tree in samples.all_trees_by_words(net)], net)

    def test_lanes_have_neither_fire_nor_trees(self):
        for net in LANES:
            desk = self.desk_of(net)
            self.keep(desk, "a", self.told(desk, "nought"))
            for command in ["fire a", "tree a"]:
                with self.assertRaises(NotPlain):
                    desk.say(command)
            self.assertEqual(desk.say("comes a"), "yes")
