"""The limits of point [10]."""

import unittest

from spiderwires import limits


class Limits(unittest.TestCase):
    def check(self, name, value):
        found = getattr(limits, name)
        self.assertIs(type(found), int)
        self.assertEqual(found, value)

    def test_max_ports(self):
        self.check("MAX_PORTS", 8)

    def test_max_nodes(self):
        self.check("MAX_NODES", 80)

    def test_max_edges(self):
        self.check("MAX_EDGES", 1500)

    def test_max_power(self):
        self.check("MAX_POWER", 2000)

    def test_solve_nodes(self):
        self.check("SOLVE_NODES", 24)

    def test_solve_edges(self):
        self.check("SOLVE_EDGES", 200)

    def test_solve_power(self):
        self.check("SOLVE_POWER", 500)

    def test_max_width(self):
        self.check("MAX_WIDTH", 4)

    def test_max_program(self):
        self.check("MAX_PROGRAM", 100)


if __name__ == "__main__":
    unittest.main()
