"""The bounds of diagrams, of what can be solved, and of programs."""

MAX_PORTS = 8
MAX_NODES = 80
MAX_EDGES = 1500
MAX_POWER = 2000

SOLVE_NODES = 24
SOLVE_EDGES = 200
SOLVE_POWER = 500

MAX_WIDTH = 4
MAX_PROGRAM = 100
