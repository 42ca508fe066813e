"""The examples of the whole interface, point [10], and those of README.md."""

import pathlib
import unittest

from spiderwires import errors

TESTS = pathlib.Path(__file__).resolve().parent


def lines_of(block):
    """Each line of code of a block with the line behind it that is no code, or None."""
    lines = block.split("\n") + [">>> "]
    for line, following in zip(lines, lines[1:]):
        if line.startswith(">>> "):
            yield line[4:], None if following.startswith(">>> ") else following


def result_of(code, names):
    """What a line of code returns or raises, as it is written in a block."""
    if code.startswith("from ") or " = " in code.split("(")[0]:
        exec(code, names)
        return None
    try:
        return repr(eval(code, names))
    except (errors.InvalidInput, errors.Conflict, errors.OutOfRange) as error:
        (value,) = vars(error).values()
        name = type(error).__name__
        # A block shows no reason, since its content is not specified.
        return f"raises {name}" + ("" if hasattr(error, "reason") else f"({value!r})")


class Examples(unittest.TestCase):
    def run_block(self, block, names):
        found = 0
        for code, wanted in lines_of(block):
            result = result_of(code, names)
            self.assertEqual(result, wanted, block)
            found += wanted is not None
        return found

    def test_the_interface(self):
        text = (TESTS / "interface.txt").read_text("ascii")
        blocks = [block.strip() for block in text.split("\n\n") if block.startswith(">>>")]
        self.assertEqual(len(blocks), 50)
        for block in blocks:
            self.assertEqual(self.run_block(block, {}), 1, block)

    def test_the_readme(self):
        text = (TESTS.parent / "README.md").read_text("ascii")
        blocks = [part.strip() for part in text.split("```")[1::2] if part.strip().startswith(">>>")]
        names = {}
        self.assertGreater(sum(self.run_block(block, names) for block in blocks), 15)


if __name__ == "__main__":
    unittest.main()
