"""The interface's errors: eleven refusals under HeapError, side by side."""

import unittest

from heapstill.errors import HeapError, NoDeed, NoHeap, NoName, NoNet, NoRings, NoRow, NotAgain, NoText, NotPlain
from heapstill.errors import NoTree, TooMany

REFUSALS = [NoNet, NoRow, NoHeap, TooMany, NotPlain, NoRings, NotAgain, NoTree, NoText, NoName, NoDeed]


class Errors(unittest.TestCase):
    def test_heap_error_stands_straight_under_value_error(self):
        self.assertEqual(HeapError.__bases__, (ValueError,))

    def test_each_refusal_stands_straight_under_heap_error(self):
        for refusal in REFUSALS:
            self.assertEqual(refusal.__bases__, (HeapError,), refusal)

    def test_no_refusal_stands_under_another(self):
        self.assertEqual(len(set(REFUSALS)), 11)
        for one in REFUSALS:
            for other in REFUSALS:
                self.assertEqual(issubclass(one, other), one is other, (one, other))

    def test_each_is_called_by_its_name(self):
        names = "NoNet NoRow NoHeap TooMany NotPlain NoRings NotAgain NoTree NoText NoName NoDeed".split()
        self.assertEqual([refusal.__name__ for refusal in REFUSALS], names)

    def test_each_is_raised_and_taken_as_any_refusal(self):
        for refusal in REFUSALS:
            with self.assertRaises(HeapError):
                raise refusal("refused")
