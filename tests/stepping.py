"""How the tests of steps check one step."""

import unittest

from drawn import slow_step, slow_table

from spiderwires.errors import BadStep, InvalidInput
from spiderwires.steps import apply_step


class Case(unittest.TestCase):
    def good(self, diagram, step, wanted):
        """A step returns the wanted diagram, which has the same table."""
        got = apply_step(diagram, step)
        self.assertEqual(got, wanted, step)
        self.assertEqual([type(item) for item in got[:3]], [int, tuple, tuple])
        self.assertEqual(slow_step(diagram, step), wanted)
        if len(diagram[1]) < 14:
            self.assertEqual(slow_table(got), slow_table(diagram))

    def bad(self, diagram, step):
        """A step is not valid, or not well-formed."""
        with self.assertRaises(BadStep, msg=(diagram, step)) as caught:
            apply_step(diagram, step)
        self.assertEqual((type(caught.exception.index), caught.exception.index), (int, 0))
        self.assertIsInstance(caught.exception, InvalidInput)
