"""Calls that must be told within a moment."""

import unittest
from time import perf_counter

MOMENT = 5


class Timed(unittest.TestCase):

    def soon(self, call, *things):
        """What a call returns within a moment."""
        start = perf_counter()
        told = call(*things)
        self.assertLess(perf_counter() - start, MOMENT, (call, things))
        return told
