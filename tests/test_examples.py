"""The examples of the document, as they are printed there."""

import ast
import pathlib
import unittest

FOLDER = pathlib.Path(__file__).parent / "examples"


def run_lines(text):
    """Run the lines of a block; return tuples (line, what it tells, what is printed below it)."""
    names, told, last = {}, [], None
    for line in text.splitlines():
        if line.startswith("# "):
            told.append((last, repr(eval(last, names)), line[2:]))
        elif isinstance(ast.parse(line).body[0], ast.Expr):
            last = line
        else:
            exec(line, names)
    return told


class Examples(unittest.TestCase):
    def check(self, name, lines):
        told = run_lines((FOLDER / name).read_text(encoding="ascii"))
        self.assertEqual(len(told), lines)
        for line, got, printed in told:
            self.assertEqual(got, printed, line)

    def test_point_9(self):
        self.check("point_9.txt", 6)

    def test_point_16(self):
        self.check("point_16.txt", 7)

    def test_point_22(self):
        self.check("point_22.txt", 7)

    def test_point_29(self):
        self.check("point_29.txt", 7)

    def test_point_36(self):
        self.check("point_36.txt", 6)

    def test_point_42(self):
        self.check("point_42.txt", 9)

    def test_point_46(self):
        self.check("point_46.txt", 4)

    def test_point_51(self):
        self.check("point_51.txt", 4)

    def test_point_56(self):
        self.check("point_56.txt", 4)


if __name__ == "__main__":
    unittest.main()
