"""The shape of the package: its files, their sizes, characters and imports."""

import ast
import pathlib
import re
import unittest

PACKAGE = pathlib.Path(__file__).resolve().parent.parent / "spiderwires"
OUTSIDE = {
    "heapq": {"heappush", "heappop", "heapify", "heapreplace", "heappushpop"},
    "math": {"gcd", "lcm", "isqrt", "comb", "perm", "factorial"},
    "itertools": {"product", "combinations", "permutations", "chain", "accumulate", "pairwise", "islice",
                  "zip_longest"},
    "collections": {"defaultdict", "deque"},
}

# The files of the interface, with the functions and classes that it lists under each.
INTERFACE = {
    "limits.py": {},
    "errors.py": {
        "BadNumber": "reason", "BadScalar": "reason", "BadDiagram": "reason", "BadPort": "reason",
        "BadPorts": "reason", "BadOrder": "reason", "BadBits": "reason", "BadStep": "index",
        "BadWord": "reason", "BadWidth": "reason", "BadProgram": "index", "BadLine": "line",
        "NoEdge": "edge", "PortMismatch": "counts", "TooLarge": "limit", "ZeroTable": "reason",
    },
    "exact.py": {
        "is_number": "value", "is_scalar": "value", "add": "x, y", "multiply": "x, y",
        "conjugated": "x", "scalar_value": "scalar",
    },
    "diagrams.py": {"is_diagram": "value", "need_diagram": "diagram", "edge_parity": "diagram, edge"},
    "steps.py": {"apply_step": "diagram, step", "walk": "diagram, steps"},
    "forms.py": {"form": "diagram", "form_steps": "diagram", "leaders": "diagram"},
    "tables.py": {"entry": "diagram, bits", "table": "diagram"},
    "compare.py": {
        "compare": "one, other", "check_equal": "one, other, derivations", "check_different": "one, other, witness",
        "ratio": "one, other",
    },
    "building.py": {
        "tensor": "one, other", "join": "diagram, first, second", "permute": "diagram, order", "conjugate": "diagram",
        "close_port": "diagram, port, bit", "inner_product": "one, other",
    },
    "programs.py": {
        "program_diagram": "width, program", "program_form": "width, program",
        "same_program": "width, program, second_program",
    },
    "symmetries.py": {
        "word_product": "word, second_word", "keeps": "diagram, word", "symmetries": "diagram", "all_symmetries": "diagram",
    },
    "cuts.py": {"cut_rank": "diagram, ports", "split": "diagram, ports"},
    "outcomes.py": {"chance": "diagram, port, bit", "outcomes": "diagram, ports"},
    "texts.py": {"diagram_text": "diagram", "steps_text": "steps"},
    "reading.py": {"read_diagram": "text", "read_steps": "text"},
}


def files():
    return [path for path in sorted(PACKAGE.rglob("*")) if "__pycache__" not in path.parts]


def sources():
    return [path for path in files() if path.suffix == ".py"]


def trees():
    return [(path, ast.parse(path.read_text("utf-8"))) for path in sources()]


def parameters(statement):
    """The parameters of a function, or those of a class's __init__ behind its own object."""
    if isinstance(statement, ast.FunctionDef):
        return [argument.arg for argument in statement.args.args]
    for inner in statement.body:
        if isinstance(inner, ast.FunctionDef) and inner.name == "__init__":
            return [argument.arg for argument in inner.args.args[1:]]
    return []


class Shape(unittest.TestCase):
    def test_there_are_only_python_files_with_plain_names(self):
        self.assertIn(PACKAGE / "__init__.py", files())
        for path in files():
            self.assertTrue(path.is_file() and re.fullmatch("[a-z0-9_]+[.]py", path.name), path)

    def test_sizes(self):
        for path, tree in trees():
            lines = path.read_text("utf-8").split("\n")
            self.assertLessEqual(len(lines) - 1, 399, path)
            self.assertLessEqual(max(len(line) for line in lines), 120, path)
            for node in ast.walk(tree):
                if isinstance(node, ast.FunctionDef):
                    self.assertLessEqual(node.end_lineno - node.lineno + 1, 40, (path, node.name))

    def test_characters(self):
        for path in sources():
            self.assertRegex(path.read_bytes().decode("ascii"), r"\A[ -~\n]*\Z", path)

    def test_imports(self):
        for path, tree in trees():
            found = [node for node in ast.walk(tree) if isinstance(node, (ast.Import, ast.ImportFrom))]
            for node in found:
                self.assertIsInstance(node, ast.ImportFrom, path)
                self.assertIn(node, tree.body, path)
                names = {alias.name for alias in node.names}
                if node.module in OUTSIDE:
                    self.assertLessEqual(names, OUTSIDE[node.module], path)
                    continue
                folder, _, file = node.module.partition(".")
                self.assertEqual((node.level, folder), (0, "spiderwires"), path)
                self.assertTrue((PACKAGE / f"{file}.py").is_file(), node.module)

    def test_the_interface_is_defined_in_its_files(self):
        found = dict((path.name, tree) for path, tree in trees())
        for file, wanted in INTERFACE.items():
            defined = {
                statement.name: ", ".join(parameters(statement))
                for statement in found[file].body if isinstance(statement, (ast.FunctionDef, ast.ClassDef))
            }
            for name, listed in wanted.items():
                self.assertEqual(defined.get(name), listed, (file, name))


if __name__ == "__main__":
    unittest.main()
