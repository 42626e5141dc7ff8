"""What a step is: point 9 and `is_step`."""

import unittest

from flowpieces.steps import is_step
from samples import HALF, NIL, NO_STEPS, ONE, WIDE


class WhatTheyAre(unittest.TestCase):
    def test_steps(self):
        for value in ((), ((0, ONE),), ((0, HALF), (1, ONE), (0, HALF)), ((2, NIL), (2, (-3, 4)), (0, WIDE))):
            self.assertIs(is_step(value), True)
        self.assertIs(is_step(value=()), True)

    def test_no_steps(self):
        for value in NO_STEPS:
            self.assertIs(is_step(value), False)


if __name__ == "__main__":
    unittest.main()
