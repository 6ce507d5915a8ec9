"""All examples of the document in one run, from the first to the last: examples.txt has them in its words."""

import os
import unittest

from signtown import errors

EXAMPLES = os.path.join(os.path.dirname(os.path.abspath(__file__)), "examples.txt")


def examples():
    """Pairs of a line of code and the text of what is wanted, "" for nothing."""
    found = []
    with open(EXAMPLES, encoding="ascii") as file:
        for line in file.read().split("\n"):
            if line.startswith(">>> "):
                found.append((line[len(">>> "):], []))
            elif line and not line.startswith("# "):
                found[-1][1].append(line)
    return [(code, "\n".join(wanted)) for code, wanted in found]


def told(code, names):
    """What a line of code tells, as the document writes it."""
    try:
        value = eval(compile(code, "examples.txt", "eval"), names)
        return "" if value is None else repr(value)
    except SyntaxError:
        exec(compile(code, "examples.txt", "exec"), names)
        return ""


def told_or_raised(code, names):
    try:
        return told(code, names)
    except errors.TownError as error:
        fields = ", ".join(repr(field) for field in vars(error).values())
        return f"raises {type(error).__name__}({fields})"


class AllExamplesTest(unittest.TestCase):
    def test_from_the_first_to_the_last(self):
        names = {}
        for code, wanted in examples():
            self.assertEqual(wanted, told_or_raised(code, names), code)

    def test_there_are_all_of_them(self):
        self.assertEqual(116, len(examples()))


if __name__ == "__main__":
    unittest.main()
