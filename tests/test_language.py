"""What LANGUAGE.md bars from the package and no run of it would show: rule L7's stars in a subscript's brackets."""

import ast
import unittest
from pathlib import Path

PACKAGE = Path(__file__).resolve().parent.parent / "saidground"


def is_star(node):
    """Whether a node of the code has a star, or two, ahead of what it unpacks."""
    if isinstance(node, ast.Dict):
        return None in node.keys
    return isinstance(node, ast.Starred) or (isinstance(node, ast.keyword) and node.arg is None)


def starred_rows(code):
    """The rows, rising, at which a subscript begins that has a star in its brackets."""
    found = set()
    for node in ast.walk(ast.parse(code)):
        if isinstance(node, ast.Subscript) and any(is_star(inner) for inner in ast.walk(node.slice)):
            found.add(node.lineno)
    return sorted(found)


class TestStars(unittest.TestCase):
    def test_no_star_stands_in_a_subscripts_brackets(self):
        files = sorted(PACKAGE.rglob("*.py"))
        self.assertIn(PACKAGE / "giving.py", files)
        for file in files:
            with self.subTest(file=file.name):
                self.assertEqual(starred_rows(file.read_text(encoding="utf-8")), [])

    def test_the_look_finds_each_star_in_brackets(self):
        for code in ("lot = held[(*key, line)]", "lot = held[*key, line]", "held[(*key, line)] = lot",
                     "held[(*key, line)] += 1", "del held[(*key, line)]", "said[at][(*key, line)].lot",
                     "held[[*key][0]]", "held[head(*key)]", "held[head(**key)]", "held[{**key}[0]]",
                     "held[1, (2, (*key, 3))]", "held[lots[(*key, 0)]]", "key[len([*key]):]",
                     "def lot(held, key): return [held[(*key, k)] for k in key]", "def lot(key: tuple[*key]): pass"):
            with self.subTest(code=code):
                self.assertEqual(starred_rows(code), [1])

    def test_the_look_tells_every_row(self):
        self.assertEqual(starred_rows("a[0]\na[(*b,)]\na[b]\nc = (\n    a[(*b, 1)],\n    a[(*b,)])\n"), [2, 5, 6])

    def test_the_look_lets_other_stars_be(self):
        for code in ("lot = held[key + (line,)]", "slot = (*key, line)\nlot = held[slot]", "first, *rest = rows[0]",
                     "lots = [*held[0], 1]", "both = {**held[0], 1: 2}", "head(*rows[0], **held[1])",
                     "rows[2 * at]", "rows[at ** 2:at * 3]", "def head(*rows): return rows[0]"):
            with self.subTest(code=code):
                self.assertEqual(starred_rows(code), [])


if __name__ == "__main__":
    unittest.main()
