import ast
import unittest
from pathlib import Path

PACKAGE = Path(__file__).resolve().parent.parent / "seenbefore"


def is_plain(node):
    """Whether a part of a call may stand behind a star (L7): a name, an attribute, a literal, or a row of these."""
    if isinstance(node, ast.Starred):
        return is_plain(node.value)
    if isinstance(node, ast.Attribute):
        return isinstance(node.value, ast.Name)
    if isinstance(node, (ast.List, ast.Tuple)):
        return all(is_plain(part) for part in node.elts)
    if isinstance(node, ast.Dict):
        return all(part is None or is_plain(part) for part in node.keys + node.values)
    return isinstance(node, (ast.Name, ast.Constant))


def is_name(node):
    """Whether a part of a call may stand behind "**" (L7)."""
    return isinstance(node, ast.Name) or isinstance(node, ast.Attribute) and isinstance(node.value, ast.Name)


def keeps_stars(call):
    """Whether a call keeps what L7 says of calls with stars."""
    starred = [at for at, part in enumerate(call.args) if isinstance(part, ast.Starred)]
    twice = [word for word in call.keywords if word.arg is None]
    if twice:
        return len(call.keywords) == 1 and is_name(twice[0].value) and all(map(is_plain, call.args))
    behind = call.args[starred[0]:] + [word.value for word in call.keywords] if starred else []
    return all(map(is_plain, behind))


def wrong_rows(text):
    """The rows of the calls in a file's text that break L7."""
    calls = [node for node in ast.walk(ast.parse(text)) if isinstance(node, ast.Call)]
    return [call.lineno for call in calls if not keeps_stars(call)]


class StarsTest(unittest.TestCase):
    def test_calls_of_the_package(self):
        files = sorted(PACKAGE.rglob("*.py"))
        self.assertGreater(len(files), 10)
        for file in files:
            self.assertEqual(wrong_rows(file.read_text()), [], file.name)

    def test_what_is_wrong_is_found(self):
        for call in ("f(*xs)", "f(k, *xs)", "f(xs[0], *xs)", "f(*xs, n, sep=n)", "f(*b.rows, (1, n))", "f(**d)",
                     "f(k, **b.d)", "f(g(x), xs[0])"):
            self.assertEqual(wrong_rows(call), [], call)
        for call in ("f(*rule, parts[4], n)", "f(*rule, tuple(n))", "f(*g(x))", "f(*xs[1:])", "f(*xs, n=g(x))",
                     "f(*xs, (n, a[0]))", "f(*a.b.c)", "f(g(x), **d)", "f(**{})", "f(k=1, **d)", "f(**d, **e)"):
            self.assertEqual(wrong_rows("\n" + call), [2], call)


if __name__ == "__main__":
    unittest.main()
