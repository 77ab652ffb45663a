"""Heapstill: heaps of grains that topple till they are still."""
