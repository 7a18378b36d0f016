"""The examples of the interface, as they stand in the document: examples.txt has its parts word by word."""

import unittest
from pathlib import Path

from tests.common import raised

TEXT = Path(__file__).with_name("examples.txt").read_text(encoding="ascii")


def examples(text):
    """Tuples of the statements, the last expression and the expected line of each example."""
    found, source = [], []
    for line in text.splitlines():
        if line.startswith(">>> "):
            source.append(line[4:])
        elif source:
            found.append((source[:-1], source[-1], line))
            source = []
    return found


def outcome(statements, expression):
    """What the expression gives: its value as text, or the error that it raises."""
    names = {}
    exec("\n".join(statements), names)
    told = raised(eval, expression, names)
    return repr(told[1]) if told[0] == "returned" else told


def shown(line):
    """What the document shows in this line, in the form of `outcome`."""
    if not line.startswith("raises "):
        return line
    name, arguments = line[len("raises "):-1].split("(", 1)
    return (name,) + eval(f"({arguments},)")


class TestExamples(unittest.TestCase):
    def test_examples(self):
        """Each example shows what the document says."""
        for statements, expression, expected in examples(TEXT):
            with self.subTest(expression):
                self.assertEqual(outcome(statements, expression), shown(expected))

    def test_none_is_missing(self):
        """There are 34 examples, seven of which raise an error."""
        found = examples(TEXT)
        wrong = [shown(line) for _, _, line in found if line.startswith("raises ")]
        expected = [
            ("InvalidBook", "balance", 1), ("InvalidRow", 1), ("NoLimit", (0, 1)), ("NotPlain", 1),
            ("InvalidHold", "column"), ("InvalidText", 1, 4), ("InvalidText", 1, 2),
        ]
        self.assertEqual([len(found), wrong], [34, expected])


if __name__ == "__main__":
    unittest.main()
