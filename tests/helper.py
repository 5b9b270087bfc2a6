"""What several test files need."""

import copy
import doctest
import unittest


def nested(depth, kind):
    """Return a list, tuple or dict with so many levels."""
    value = kind()
    for _ in range(depth - 1):
        if kind is dict:
            value = {"a": value}
        else:
            value = kind([value])
    return value


def any_values():
    """Return values of every kind that "any value" means, none of them a word or a shape."""
    return [
        0, 1, -1, 10 ** 59, -(10 ** 59), True, False, None, "", " ", "*", "A", "a b", "a\n", "\n",
        "user_7", "\x00", "~", (), [], {}, {"a": 1}, {1: ["a"]}, (None,), [None], [0], [[0]], [True],
        ("a", 1), [("a",)], (("a",),), nested(100, list), nested(100, tuple), nested(100, dict),
        (nested(99, list), 1, 2), ("letters", nested(99, tuple), nested(99, list)),
        ("text", nested(99, dict)), [nested(99, tuple)], [[nested(98, dict)]],
    ]


class Case(unittest.TestCase):
    """A test case that checks answers, and that calls leave their arguments as they are."""

    def check_example(self, text):
        """Run an example of the interface as it stands in the document."""
        test = doctest.DocTestParser().get_doctest(text, {}, self.id(), None, 0)
        self.assertGreater(len(test.examples), 1)
        told = []
        result = doctest.DocTestRunner(verbose=False).run(test, out=told.append)
        self.assertEqual(result.failed, 0, "".join(told))

    def call(self, function, **arguments):
        """Call by position and by name; the answers are equal and the arguments unchanged."""
        before = copy.deepcopy(arguments)
        by_name = function(**arguments)
        by_position = function(*arguments.values())
        self.assertEqual(by_name, by_position)
        self.assertEqual(repr(arguments), repr(before))
        return by_name

    def check_judged(self, function, value, expected):
        """Check what a function that judges any value returns of one."""
        with self.subTest(value=repr(value)[:80]):
            self.assertIs(self.call(function, value=value), expected)
