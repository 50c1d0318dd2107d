"""The document's examples, as they are written there."""

import os
import unittest

FILE = os.path.join(os.path.dirname(os.path.abspath(__file__)), "examples.txt")


def examples():
    with open(FILE, encoding="ascii") as file:
        return [block.split("\n") for block in file.read().strip().split("\n\n")]


def raised_by(line, names):
    try:
        eval(line, names)
    except Exception as error:
        told = ", ".join(repr(value) for value in vars(error).values())
        return f"raises {type(error).__name__}({told})"
    return "raises nothing"


class ExamplesTest(unittest.TestCase):
    def test_examples(self):
        blocks = examples()
        self.assertEqual(len(blocks), 40)
        for lines in blocks:
            names = {}
            for place, line in enumerate(lines):
                after = lines[place + 1] if place + 1 < len(lines) else ">>> "
                if not line.startswith(">>> "):
                    continue
                with self.subTest(line=line):
                    if after.startswith(">>> "):
                        exec(line[4:], names)
                    elif after.startswith("raises "):
                        self.assertEqual(raised_by(line[4:], names), after)
                    else:
                        self.assertEqual(repr(eval(line[4:], names)), after)


if __name__ == "__main__":
    unittest.main()
