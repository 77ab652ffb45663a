"""Points 4 to 6: what a net is, how one is made or refused, and how far its places are from the pit."""

import random
import unittest

from heapstill.errors import NoNet
from heapstill.nets import is_plain, leads, made_net
from tests import samples

HUGE = 10 ** 299


class Made(unittest.TestCase):
    def test_one_place_one_road(self):
        self.assertEqual(made_net(1, [(0, 1)]), (1, [(0, 1)], []))

    def test_one_place_one_lane(self):
        self.assertEqual(made_net(1, [], [(0, 1)]), (1, [], [(0, 1)]))

    def test_eight_places(self):
        roads = [(place, 8) for place in range(8)]
        self.assertEqual(made_net(8, roads), (8, roads, []))

    def test_roads_in_either_order_lanes_as_they_are(self):
        net = made_net(3, [(3, 0), (1, 0), (0, 1), (2, 1)], [(2, 0), (0, 2)])
        self.assertEqual(net, (3, [(0, 3), (0, 1), (0, 1), (1, 2)], [(2, 0), (0, 2)]))

    def test_kept_in_the_order_told(self):
        roads = [(1, 2), (0, 1), (1, 2), (0, 2), (0, 1)]
        lanes = [(1, 2), (0, 2), (1, 0), (0, 2)]
        self.assertEqual(made_net(2, roads, lanes), (2, roads, lanes))

    def test_lanes_left_out_none_and_empty(self):
        for net in [made_net(1, [(0, 1)]), made_net(1, [(0, 1)], None), made_net(1, [(0, 1)], []),
                    made_net(1, [(0, 1)], lanes=None), made_net(many=1, roads=[(0, 1)], lanes=[])]:
            self.assertEqual(net, (1, [(0, 1)], []))
            self.assertIsInstance(net[2], list)

    def test_forty_ways(self):
        self.assertEqual(made_net(1, [(0, 1)] * 40), (1, [(0, 1)] * 40, []))
        self.assertEqual(made_net(1, [], [(0, 1)] * 40), (1, [], [(0, 1)] * 40))
        self.assertEqual(made_net(1, [(1, 0)] * 17, [(0, 1)] * 23), (1, [(0, 1)] * 17, [(0, 1)] * 23))
        self.assertEqual(made_net(*samples.FORTY_ROADS), samples.FORTY_ROADS)

    def test_kinds(self):
        net = made_net(2, [(1, 0), (2, 0)], [(1, 2)])
        self.assertIs(type(net), tuple)
        self.assertEqual([type(part) for part in net], [int, list, list])
        self.assertEqual([type(way) for way in net[1] + net[2]], [tuple] * 3)

    def test_a_way_along_lanes_is_enough(self):
        net = (3, [(0, 1)], [(1, 2), (2, 3)])
        self.assertEqual(made_net(*net), net)

    def test_all_samples_are_nets(self):
        for net in samples.ALL_NETS + samples.some_nets(41, 60, 0) + samples.some_nets(42, 60, 9):
            self.assertEqual(made_net(*net), net)
            turned = [(b, a) for a, b in net[1]]
            self.assertEqual(made_net(net[0], turned, net[2]), net)


class Refused(unittest.TestCase):
    def refuse(self, *told):
        with self.assertRaises(NoNet, msg=told):
            made_net(*told)

    def refuse_at_any_place(self, many, roads, lanes, wrong_roads, wrong_lanes):
        """Each wrong way makes the sound net none, wherever in its list it stands."""
        made_net(many, roads, lanes)
        for wrong in wrong_roads:
            for place in range(len(roads) + 1):
                self.refuse(many, roads[:place] + [wrong] + roads[place:], lanes)
        for wrong in wrong_lanes:
            for place in range(len(lanes) + 1):
                self.refuse(many, roads, lanes[:place] + [wrong] + lanes[place:])

    def test_many_too_small_or_great(self):
        for many in [0, -1, 9, 10, HUGE, -HUGE]:
            self.refuse(many, [])
            self.refuse(many, [(0, 1)])
            self.refuse(many, [], [(0, 1)])
        self.refuse(9, [(place, 9) for place in range(9)])
        self.refuse(9, [], [(place, 9) for place in range(9)])

    def test_numbers_too_small_or_great(self):
        wrong = [(0, 4), (4, 0), (1, 4), (3, 4), (-1, 0), (0, -1), (-1, 3), (-2, -1), (4, 5), (0, HUGE), (-HUGE, 1)]
        self.refuse_at_any_place(3, [(0, 3), (1, 3), (2, 3)], [(0, 1), (2, 1)], wrong, wrong)
        for wrong_road in wrong:
            self.refuse(3, [(0, 3), wrong_road, (1, 3), (2, 3)])

    def test_a_number_beside_itself(self):
        wrong = [(0, 0), (1, 1), (2, 2), (3, 3)]
        self.refuse_at_any_place(3, [(0, 3), (1, 3), (2, 3)], [(0, 1), (2, 1)], wrong, wrong)
        self.refuse(1, [(0, 1), (1, 1)])
        self.refuse(1, [(0, 0), (0, 1)])

    def test_a_lane_from_the_pit(self):
        self.refuse_at_any_place(3, [(0, 3), (1, 3), (2, 3)], [(0, 1), (2, 1)], [], [(3, 0), (3, 1), (3, 2)])
        self.refuse(1, [(0, 1)], [(1, 0)])

    def test_too_many_ways(self):
        self.refuse(1, [(0, 1)] * 41)
        self.refuse(1, [], [(0, 1)] * 41)
        self.refuse(1, [(0, 1)] * 40, [(0, 1)])
        self.refuse(1, [(0, 1)], [(0, 1)] * 40)
        self.refuse(1, [(0, 1)] * 21, [(0, 1)] * 20)
        self.refuse(8, samples.FORTY_ROADS[1] + [(0, 8)])

    def test_a_place_without_a_way(self):
        self.refuse(1, [])
        self.refuse(1, [], [])
        self.refuse(2, [(0, 2)])
        self.refuse(2, [(1, 2)])
        self.refuse(3, [(0, 1), (1, 2), (0, 2)])
        self.refuse(4, [(0, 1), (2, 3), (3, 4)])
        for lost in range(8):
            self.refuse(8, [(place, 8) for place in range(8) if place != lost])

    def test_lanes_lead_one_way_alone(self):
        self.refuse(2, [(0, 2)], [(0, 1)])
        self.refuse(2, [], [(1, 0), (0, 1)])
        self.refuse(3, [(2, 3)], [(0, 2), (2, 1)])
        made_net(2, [(0, 2)], [(1, 0)])

    def test_spans_with_a_lane(self):
        made_net(2, [], [(0, 2)] * 15 + [(1, 2)] * 20)
        self.refuse(2, [], [(0, 2)] * 16 + [(1, 2)] * 19)
        made_net(2, [(0, 2)] * 14 + [(1, 2)] * 20, [(0, 2)])
        made_net(2, [(0, 2)] * 15 + [(1, 2)] * 19, [(1, 0)])
        self.refuse(2, [(0, 2)] * 15 + [(1, 2)] * 19, [(0, 2)])
        self.refuse(2, [(0, 2)] * 16 + [(1, 2)] * 18, [(1, 0)])
        self.refuse(2, [(0, 1)] * 17 + [(1, 2)], [(0, 2)])

    def test_spans_of_many_places_with_a_lane(self):
        roads = [(place, 8) for place in range(8)]
        made_net(8, roads, [(place, 8) for place in range(8)])
        self.refuse(8, roads, [(place, 8) for place in range(8)] + [(3, 8)])
        made_net(3, [(0, 3)] * 5 + [(1, 3)] * 6 + [(2, 3)] * 9, [(2, 1)])
        self.refuse(3, [(0, 3)] * 5 + [(1, 3)] * 6 + [(2, 3)] * 9, [(1, 0)])

    def test_the_same_spans_without_a_lane(self):
        made_net(2, [(0, 2)] * 16 + [(1, 2)] * 19)
        made_net(2, [(0, 1)] * 18 + [(1, 2)], [])
        made_net(8, [(place, 8) for place in range(8)] * 5, None)
        made_net(*samples.ALL_TO_ALL)


class Plain(unittest.TestCase):
    def test_plain_without_lanes(self):
        for net in samples.PLAIN_NETS:
            self.assertIs(is_plain(net), True)
            self.assertIs(is_plain(made_net(net[0], net[1])), True)

    def test_not_plain_with_a_lane(self):
        for net in samples.LANE_NETS:
            self.assertIs(is_plain(net), False)
            self.assertIs(is_plain(made_net(*net)), False)


class Leads(unittest.TestCase):
    def test_roads_go_both_ways(self):
        self.assertEqual(leads(1, [(0, 1)], []), [1])
        self.assertEqual(leads(3, [(0, 1), (1, 2), (2, 3)], []), [3, 2, 1])
        self.assertEqual(leads(3, [(0, 3), (0, 1), (1, 2)], []), [1, 2, 3])
        self.assertEqual(leads(8, [(place, place + 1) for place in range(8)], []), [8, 7, 6, 5, 4, 3, 2, 1])

    def test_the_least_number(self):
        self.assertEqual(leads(3, [(0, 1), (1, 2), (2, 3), (0, 3)], []), [1, 2, 1])
        self.assertEqual(leads(4, [(0, 1), (1, 2), (2, 4), (0, 3), (3, 4)], []), [2, 2, 1, 1])
        self.assertEqual(leads(2, [(1, 2), (0, 1), (0, 1)], [(0, 2)]), [1, 1])

    def test_places_without_a_way(self):
        self.assertEqual(leads(1, [], []), [None])
        self.assertEqual(leads(3, [(0, 1), (2, 3)], []), [None, None, 1])
        self.assertEqual(leads(8, [], []), [None] * 8)

    def test_lanes_against_their_direction(self):
        self.assertEqual(leads(2, [(1, 2)], [(0, 1)]), [2, 1])
        self.assertEqual(leads(2, [(1, 2)], [(1, 0)]), [None, 1])
        self.assertEqual(leads(2, [], [(0, 1)]), [None, None])
        self.assertEqual(leads(3, [], [(2, 1), (1, 0), (0, 3)]), [1, 2, 3])
        self.assertEqual(leads(3, [], [(1, 2), (0, 1), (0, 3)]), [1, None, None])
        self.assertEqual(leads(3, [(2, 3)], [(0, 1), (1, 0), (2, 0)]), [None, None, 1])

    def test_spans_that_come_to_more_than_300(self):
        self.assertEqual(leads(2, [(0, 1)] * 20, [(1, 2)] * 20), [2, 1])
        self.assertEqual(leads(3, [], [(0, 1)] * 13 + [(1, 2)] * 13 + [(2, 1)] * 14), [None, None, None])

    def test_held_against_a_search(self):
        chance = random.Random(6)
        for turn in range(400):
            many = chance.randint(1, 8)
            roads, lanes = samples.some_ways(chance, many, many, many)
            told = leads(many, roads, lanes)
            self.assertEqual(told, samples.steps_to_pit(many, roads, lanes), (many, roads, lanes))
