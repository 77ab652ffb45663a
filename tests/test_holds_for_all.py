"""Point 2: what is handed in is only read, lists told are nobody else's, equal questions have equal answers."""

import copy
import unittest

from heapstill.alike import net_table, told_alike
from heapstill.debts import full_after, lowest, made_good
from heapstill.desk import Desk
from heapstill.errors import HeapError
from heapstill.fire import comes_again, fire
from heapstill.nets import is_plain, leads, made_net
from heapstill.rings import all_again, heap_at, how_many, ring_lengths, ring_place
from heapstill.smith import ring_tables
from heapstill.still import least_paper, still
from heapstill.sums import again, contrary, heap_sum, nought, times
from heapstill.tables import measure, product, shared_out
from heapstill.tolls import after, span_list, toll_table
from heapstill.texts import net_text, read_net, read_row, row_text
from heapstill.trees import all_trees, heap_of, tree_of
from heapstill.ways import Picked, Together, Way, run
from heapstill.worth import counterpart, row_worth
from tests import samples

TABLES = [[[5]], [[0, 1], [1, 0]], [[2, 4], [6, 8]], [[2, 4, 4], [-6, 6, 12], [10, -4, -16]], samples.ones(8),
          [[10 ** 29 + (3 * i + j) ** 9 for j in range(4)] for i in range(4)]]


def plain_chosen(net, heap):
    return Way().chosen(net, heap)


def together_chosen(net, heap):
    return Together().chosen(net, heap)


def picked_chosen(net, heap, picks):
    """A picked way answers by what it was asked before, so each asking here is the first one of a way of its own."""
    return Picked(picks).chosen(net, heap)


def plain_run(net, heap):
    return run(net, heap, Way())


def together_run(net, heap):
    return run(net, heap, Together())


def picked_run(net, heap, picks):
    return run(net, heap, Picked(picks))


def questions_of_ways(net):
    asked = []
    for heap in [[0] * net[0], samples.spans_of(net)]:
        asked += [(plain_chosen, (net, heap)), (together_chosen, (net, heap)), (picked_chosen, (net, heap, [4, 1])),
                  (plain_run, (net, heap)), (together_run, (net, heap)), (picked_run, (net, heap, [4, 1, 1, 2]))]
    return asked


def questions_of_a_table(table):
    row = list(range(1, len(table) + 1))
    return [(product, (table, table)), (product, (table, samples.ones(len(table)))), (measure, (table,)),
            (shared_out, (table, row)), (shared_out, (table, list(table[0]))), (ring_tables, (table,))]


def questions_of_rings(net):
    small = [0] * net[0]
    row = [9 - 7 * place for place in range(net[0])]
    heap = [4 + place for place in range(net[0])]
    asked = [(net_table, (net,)), (nought, (net,)), (how_many, (net,)), (ring_lengths, (net,)),
             (told_alike, (net, row, small)), (told_alike, (net, row, row)), (heap_sum, (net, heap, small)),
             (heap_sum, (net, heap, heap)), (times, (net, row, -3)), (times, (net, small, 1)),
             (heap_at, (net, [length - 1 for length in ring_lengths(net)]))]
    for each in [small, row, heap, nought(net)]:
        asked += [(again, (net, each)), (contrary, (net, each)), (ring_place, (net, each))]
    if how_many(net) <= 300:
        asked.append((all_again, (net,)))
    return asked


def questions_of_trees(net):
    heap = [span - 1 for span in samples.spans_of(net)]
    asked = [(tree_of, (net, heap)), (tree_of, (net, nought(net))), (heap_of, (net, tree_of(net, heap)))]
    if how_many(net) <= 300:
        asked.append((all_trees, (net,)))
    return asked


def questions_of_debts(net):
    zeros = [0] * (net[0] + 1)
    full = [4 - 3 * spot for spot in range(net[0] + 1)]
    asked = []
    for each in [zeros, full, lowest(net, full)[0]]:
        asked += [(full_after, (net, each, zeros)), (full_after, (net, each, full)), (lowest, (net, each)),
                  (made_good, (net, each)), (counterpart, (net, each))]
        if net[0] <= 4:
            asked.append((row_worth, (net, each)))
    return asked


def questions_of_texts(net):
    return [(net_text, (net,)), (read_net, (net_text(net),)), (row_text, (samples.spans_of(net),)),
            (read_row, (row_text(samples.spans_of(net)),)), (row_text, ([],)), (read_row, ("",)),
            (desk_told, (net_text(net), [samples.spans_of(net), [0] * net[0]]))]


def desk_told(text, heaps):
    """What a desk of its own answers, each time to the same commands: a desk answers by what it was asked before."""
    desk = Desk()
    told = [desk.say("net " + text), desk.say(f"heap a {row_text(heaps[0])}"), desk.say(f"heap b {row_text(heaps[1])}"),
            desk.say("add c a b"), desk.say("again d c")]
    for command in ["names", "rings", "many", "nought", "alike a d", "show c", "still a", "counts a", "comes d",
                    "place b"]:
        told.append(desk.say(command))
    return told


def questions_of_a_net(net):
    many = net[0]
    heap = [3 + 5 * place for place in range(many)]
    small = [0] * many
    counts = [2 - place for place in range(many)]
    asked = [(made_net, net), (leads, net), (is_plain, (net,)), (span_list, (net,)), (toll_table, (net,)),
             (after, (net, heap, counts)), (after, (net, small, small)), (still, (net, heap)), (still, (net, small))]
    if not net[2]:
        asked += [(made_net, net[:2]), (least_paper, (net, heap)), (least_paper, (net, small)), (fire, (net, heap)),
                  (fire, (net, small)), (comes_again, (net, heap)), (comes_again, (net, small))]
        asked += questions_of_trees(net) + questions_of_debts(net)
    return asked + questions_of_ways(net) + questions_of_rings(net) + questions_of_texts(net)


def questions():
    """Functions, each with what it is handed: all of it made anew, so that a test may change it."""
    asked = []
    for net in samples.ALL_NETS:
        asked += questions_of_a_net(net)
    for table in TABLES:
        asked += questions_of_a_table(table)
    asked += [(leads, (2, [], [])), (leads, (8, [], [(0, 1)]))]
    return [(function, copy.deepcopy(handed)) for function, handed in asked]


def lists_in(value):
    """All lists in a value, itself among them, one entry for each place where one stands."""
    if not isinstance(value, (list, tuple)):
        return []
    found = [value] if isinstance(value, list) else []
    for part in value:
        found += lists_in(part)
    return found


def spoil(value):
    for found in lists_in(value):
        found.append(77)
        found[0] = -5


class HoldsForAll(unittest.TestCase):
    def test_what_is_handed_in_is_only_read(self):
        for function, handed in questions():
            before = copy.deepcopy(handed)
            function(*handed)
            self.assertEqual(handed, before, function)

    def test_no_list_stands_twice_in_an_answer(self):
        for function, handed in questions():
            found = lists_in(function(*handed))
            self.assertEqual(len({id(each) for each in found}), len(found), function)

    def test_roads_and_lanes_handed_in_as_one_list(self):
        ways = [(0, 1)]
        net = made_net(1, ways, ways)
        self.assertEqual(net, (1, [(0, 1)], [(0, 1)]))
        self.assertIsNot(net[1], net[2])

    def test_a_heap_and_counts_handed_in_as_one_list(self):
        row = [1, 2, 3]
        self.assertEqual(after(samples.PATH, row, row), samples.row_behind(samples.PATH, [1, 2, 3], [1, 2, 3]))
        self.assertEqual(row, [1, 2, 3])

    def test_a_table_and_a_row_of_it_handed_in_as_one_list(self):
        table = [[1, 2], [3, 4]]
        self.assertEqual(shared_out(table, table[1]), ([0, 1], 1))
        self.assertEqual(product(table, table), [[7, 10], [15, 22]])
        self.assertEqual(table, [[1, 2], [3, 4]])

    def test_no_list_handed_in_is_handed_out(self):
        for function, handed in questions():
            inside = {id(each) for each in lists_in(handed)}
            outside = {id(each) for each in lists_in(function(*handed))}
            self.assertEqual(inside & outside, set(), function)

    def test_an_answer_that_is_changed_changes_no_later_answer(self):
        for function, handed in questions():
            first = function(*handed)
            kept = copy.deepcopy(first)
            before = copy.deepcopy(handed)
            spoil(first)
            self.assertEqual(handed, before, function)
            self.assertEqual(function(*handed), kept, function)

    def test_what_is_handed_in_changed_behind_the_call(self):
        for function, handed in questions():
            answer = function(*handed)
            kept = copy.deepcopy(answer)
            again = copy.deepcopy(handed)
            spoil(handed)
            self.assertEqual(answer, kept, function)
            self.assertEqual(function(*again), kept, function)

    def test_a_net_stands_when_its_lists_are_changed_behind_the_call(self):
        roads = [(1, 0), (1, 2)]
        lanes = [(0, 2)]
        net = made_net(2, roads, lanes)
        roads.append((0, 2))
        lanes.clear()
        self.assertEqual(net, (2, [(0, 1), (1, 2)], [(0, 2)]))
        self.assertEqual(span_list(net), [2, 2])

    def test_lanes_left_out_are_a_new_list_each_time(self):
        first = made_net(1, [(0, 1)])
        first[2].append((0, 1))
        self.assertEqual(made_net(1, [(0, 1)]), (1, [(0, 1)], []))

    def test_a_net_that_was_changed_is_asked_as_it_is_now(self):
        net = made_net(2, [(0, 1), (1, 2)])
        self.assertEqual(still(net, [1, 0]), ([0, 1], [1, 0]))
        net[1].append((0, 2))
        self.assertEqual(span_list(net), [2, 2])
        self.assertEqual(still(net, [1, 0]), ([1, 0], [0, 0]))

    def test_a_way_stands_when_its_answers_and_its_picks_are_changed(self):
        picks = [1, 1, 1]
        way = Picked(picks)
        told = way.chosen(samples.STAR, [1, 1, 0, 1])
        self.assertEqual(told, [1])
        spoil((told, picks))
        self.assertEqual(way.chosen(samples.STAR, [1, 1, 0, 1]), [1])
        turns = run(samples.STAR, [1, 0, 1, 0], way)[2]
        self.assertEqual(turns, [[2], [0]])
        spoil(turns)
        self.assertEqual(run(samples.STAR, [1, 0, 1, 0], way)[2], [[0], [2]])

    def test_a_way_of_ones_own_that_hands_out_one_list_again(self):
        class Same(Way):
            def __init__(self):
                self.told = []

            def chosen(self, net, heap):
                self.told[:] = Way.chosen(self, net, heap)
                return self.told

        self.assertEqual(run(samples.STAR, [1, 1, 0, 0], Same())[2], [[0], [1]])

    def test_lists_of_lists_changed_one_by_one(self):
        for function, net in [(all_again, samples.TRIANGLE), (all_again, samples.ALIKE_LANES), (net_table, samples.PATH),
                              (all_trees, samples.TRIANGLE), (all_trees, samples.ALIKE_ROADS)]:
            told = function(net)
            kept = copy.deepcopy(told)
            for at in range(len(told)):
                told[at].clear()
                self.assertEqual([len(line) for line in told[at + 1:]], [len(line) for line in kept[at + 1:]])
                self.assertEqual(function(net), kept)

    def test_a_full_row_and_counts_handed_in_as_one_list(self):
        row = [1, 2, 3, 4]
        behind = samples.full_behind(samples.PATH, [1, 2, 3, 4], [1, 2, 3, 4])
        self.assertEqual(full_after(samples.PATH, row, row), behind)
        self.assertEqual(row, [1, 2, 3, 4])

    def test_two_texts_read_are_two_nets(self):
        one = read_net("2 0-1*2 1-2")
        one[1].append((0, 2))
        one[2].append((0, 1))
        self.assertEqual(read_net("2 0-1*2 1-2"), (2, [(0, 1), (0, 1), (1, 2)], []))
        row = read_row("")
        row.append(1)
        self.assertEqual(read_row(""), [])

    def test_two_desks_beside_one_another(self):
        one, other = Desk(), Desk()
        self.assertEqual(one.say("net 1 0-1*3"), "ok")
        with self.assertRaises(HeapError):
            other.say("names")
        self.assertEqual(other.say("net 2 0-1 1-2"), "ok")
        self.assertEqual([one.say("heap a 5"), other.say("heap a 5 5"), other.say("heap b 0 1")], ["ok"] * 3)
        self.assertEqual([one.say("names"), other.say("names")], ["a", "a b"])
        self.assertEqual([one.say("show a"), other.say("show a")], ["5", "5 5"])
        self.assertEqual([one.say("still a"), other.say("still a")], ["2", "0 1"])
        self.assertEqual([one.say("many"), other.say("many")], ["3", "1"])
        self.assertEqual([one.say("drop a"), one.say("names"), other.say("names")], ["ok", "", "a b"])
        self.assertEqual([one.say("net 1 0-1"), other.say("show b"), other.say("nought")], ["ok", "0 1", "0 1"])
        self.assertEqual([Desk().say("net 1 0-1"), other.say("names")], ["ok", "a b"])

    def test_asking_a_desk_changes_nothing_that_it_keeps(self):
        for net in samples.ALL_NETS:
            desk = Desk()
            heap = row_text([3 * span for span in samples.spans_of(net)])
            desk.say("net " + net_text(net))
            desk.say("heap a " + heap)
            desk.say("heap b " + heap)
            for command in ["still a", "counts a", "comes a", "place a", "alike a b", "add c a b", "again d a", "rings",
                            "nought", "fire a", "many", "add c c a", "drop b", "again b a", "add d d d"]:
                try:
                    desk.say(command)
                except HeapError:
                    pass
                self.assertEqual(desk.say("show a"), heap, (net, command))

    def test_equal_questions_with_others_between(self):
        first = [copy.deepcopy(function(*handed)) for function, handed in questions()]
        backward = [copy.deepcopy(function(*handed)) for function, handed in reversed(questions())]
        self.assertEqual(first, list(reversed(backward)))
        for function, handed in questions():
            self.assertEqual(function(*handed), function(*copy.deepcopy(handed)), function)
