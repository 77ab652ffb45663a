"""Point 2: what is handed in is only read, lists told are nobody else's, equal questions have equal answers."""

import copy
import unittest

from heapstill.nets import is_plain, leads, made_net
from heapstill.still import least_paper, still
from heapstill.tolls import after, span_list, toll_table
from tests import samples


def questions_of_a_net(net):
    many = net[0]
    heap = [3 + 5 * place for place in range(many)]
    small = [0] * many
    counts = [2 - place for place in range(many)]
    asked = [(made_net, net), (leads, net), (is_plain, (net,)), (span_list, (net,)), (toll_table, (net,)),
             (after, (net, heap, counts)), (after, (net, small, small)), (still, (net, heap)), (still, (net, small))]
    if not net[2]:
        asked += [(made_net, net[:2]), (least_paper, (net, heap)), (least_paper, (net, small))]
    return asked


def questions():
    """Functions, each with what it is handed: all of it made anew, so that a test may change it."""
    asked = []
    for net in samples.ALL_NETS:
        asked += questions_of_a_net(net)
    asked += [(leads, (2, [], [])), (leads, (8, [], [(0, 1)]))]
    return [(function, copy.deepcopy(handed)) for function, handed in asked]


def lists_in(value):
    """All lists in a value, itself among them, one entry for each place where one stands."""
    if not isinstance(value, (list, tuple)):
        return []
    found = [value] if isinstance(value, list) else []
    for part in value:
        found += lists_in(part)
    return found


def spoil(value):
    for found in lists_in(value):
        found.append(77)
        found[0] = -5


class HoldsForAll(unittest.TestCase):
    def test_what_is_handed_in_is_only_read(self):
        for function, handed in questions():
            before = copy.deepcopy(handed)
            function(*handed)
            self.assertEqual(handed, before, function)

    def test_no_list_stands_twice_in_an_answer(self):
        for function, handed in questions():
            found = lists_in(function(*handed))
            self.assertEqual(len({id(each) for each in found}), len(found), function)

    def test_roads_and_lanes_handed_in_as_one_list(self):
        ways = [(0, 1)]
        net = made_net(1, ways, ways)
        self.assertEqual(net, (1, [(0, 1)], [(0, 1)]))
        self.assertIsNot(net[1], net[2])

    def test_a_heap_and_counts_handed_in_as_one_list(self):
        row = [1, 2, 3]
        self.assertEqual(after(samples.PATH, row, row), samples.row_behind(samples.PATH, [1, 2, 3], [1, 2, 3]))
        self.assertEqual(row, [1, 2, 3])

    def test_no_list_handed_in_is_handed_out(self):
        for function, handed in questions():
            inside = {id(each) for each in lists_in(handed)}
            outside = {id(each) for each in lists_in(function(*handed))}
            self.assertEqual(inside & outside, set(), function)

    def test_an_answer_that_is_changed_changes_no_later_answer(self):
        for function, handed in questions():
            first = function(*handed)
            kept = copy.deepcopy(first)
            before = copy.deepcopy(handed)
            spoil(first)
            self.assertEqual(handed, before, function)
            self.assertEqual(function(*handed), kept, function)

    def test_what_is_handed_in_changed_behind_the_call(self):
        for function, handed in questions():
            answer = function(*handed)
            kept = copy.deepcopy(answer)
            again = copy.deepcopy(handed)
            spoil(handed)
            self.assertEqual(answer, kept, function)
            self.assertEqual(function(*again), kept, function)

    def test_a_net_stands_when_its_lists_are_changed_behind_the_call(self):
        roads = [(1, 0), (1, 2)]
        lanes = [(0, 2)]
        net = made_net(2, roads, lanes)
        roads.append((0, 2))
        lanes.clear()
        self.assertEqual(net, (2, [(0, 1), (1, 2)], [(0, 2)]))
        self.assertEqual(span_list(net), [2, 2])

    def test_lanes_left_out_are_a_new_list_each_time(self):
        first = made_net(1, [(0, 1)])
        first[2].append((0, 1))
        self.assertEqual(made_net(1, [(0, 1)]), (1, [(0, 1)], []))

    def test_a_net_that_was_changed_is_asked_as_it_is_now(self):
        net = made_net(2, [(0, 1), (1, 2)])
        self.assertEqual(still(net, [1, 0]), ([0, 1], [1, 0]))
        net[1].append((0, 2))
        self.assertEqual(span_list(net), [2, 2])
        self.assertEqual(still(net, [1, 0]), ([1, 0], [0, 0]))

    def test_equal_questions_with_others_between(self):
        first = [copy.deepcopy(function(*handed)) for function, handed in questions()]
        backward = [copy.deepcopy(function(*handed)) for function, handed in reversed(questions())]
        self.assertEqual(first, list(reversed(backward)))
        for function, handed in questions():
            self.assertEqual(function(*handed), function(*copy.deepcopy(handed)), function)
