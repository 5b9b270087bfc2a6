"""Promises 2 and 3: characters, words, shown words, lines and logs, and their orders."""

import itertools
import unittest

from blackbars.words import is_line, is_log, is_shown, is_word, log_key, word_key
from tests.helper import Checks, any_values, nested

CHARACTERS = "abcdefghijklmnopqrstuvwxyz0123456789-"

EXAMPLE = """
    >>> from blackbars.words import is_log, is_word
    >>> [is_word('user-7'), is_word('User'), is_log([['a', 'b'], []]), is_log((('a',),))]
    [True, False, True, False]
"""


class ExampleTest(Checks):
    def test_example(self):
        self.check_example(EXAMPLE)


class WordTest(Checks):
    def test_each_ascii_character(self):
        for code in range(128):
            char = chr(code)
            for word in (char, char + "a", "a" + char, "a" + char + "a"):
                self.check_judged(is_word, word, char in CHARACTERS)
                self.check_judged(is_shown, word, char in CHARACTERS + "*")

    def test_words(self):
        for word in ("a", "z", "0", "9", "-", "--", "user-7", CHARACTERS, "a" * 200, "-" * 5000):
            self.check_judged(is_word, word, True)
            self.check_judged(is_shown, word, True)

    def test_shown_words(self):
        for word in ("*", "**", "b*", "*34", "a*b", "*" * 200):
            self.check_judged(is_word, word, False)
            self.check_judged(is_shown, word, True)

    def test_no_words(self):
        for value in any_values():
            self.check_judged(is_word, value, False)
            self.check_judged(is_shown, value, value == "*")

    def test_lists_and_tuples_of_characters_are_none(self):
        for value in (["a"], ("a",), {"a": "a"}, [["a"]], ["a", "b"]):
            self.check_judged(is_word, value, False)
            self.check_judged(is_shown, value, False)


class LineTest(Checks):
    def test_lines(self):
        for line in ([], ["a"], ["user-", "bob", "7"], ["a", "a"], ["a" * 200] * 50, ["a"] * 300):
            self.check_judged(is_line, line, True)

    def test_no_lines(self):
        wrong = [
            (), ("a",), ("a", "b"), "ab", "", {}, {"a": "b"}, [""], ["a", ""], ["", "a"], ["a b"], ["A"],
            ["a*"], ["a", None], [None], [1], [True], [["a"]], ["a", ["a"]], [("a",)], [[]], ["a", "b\n"],
        ]
        for value in wrong:
            self.check_judged(is_line, value, False)

    def test_any_values(self):
        for value in any_values():
            self.check_judged(is_line, value, value == [])


class LogTest(Checks):
    def test_logs(self):
        logs = [
            [], [[]], [[], []], [["a"]], [["a", "b"], []], [[], ["a"]], [["a" * 200] * 50] * 50, [["a"]] * 300,
        ]
        for log in logs:
            self.check_judged(is_log, log, True)

    def test_no_logs(self):
        wrong = [
            (), ((),), (("a",),), (["a"],), [()], [("a",)], [["a"], ("a",)], [["a"], "a"], ["a"], "a", "",
            {}, [{}], [["a"], {}], [["a", ""]], [["A"]], [["*"]], [[["a"]]], [[[]]], [None], [["a", None]],
            [["a"], None], [[1]], [[True]], [["a"], ["b", "c d"]],
        ]
        for value in wrong:
            self.check_judged(is_log, value, False)

    def test_any_values(self):
        for value in any_values():
            self.check_judged(is_log, value, value == [])

    def test_nested_two_deep(self):
        self.check_judged(is_log, nested(2, list), True)
        self.check_judged(is_log, nested(3, list), False)


class WordKeyTest(Checks):
    def check_order(self, key, ascending):
        for low, high in itertools.combinations(ascending, 2):
            self.assertLess(self.call(key, **{key.__name__[:-4]: low}), key(high))
        self.assertEqual(sorted(reversed(ascending), key=key), ascending)

    def test_order_of_words(self):
        ordered = ["-", "0", "9", "a", "b", "z", "--", "-a", "0-", "09", "a-", "a0", "aa", "zz", "---", "aaa"]
        self.check_order(word_key, ordered)

    def test_order_of_all_characters(self):
        self.check_order(word_key, list("-0123456789abcdefghijklmnopqrstuvwxyz"))

    def test_order_of_long_words(self):
        self.check_order(word_key, ["z" * 199, "-" * 200, "a" * 199 + "b"])

    def test_order_of_logs(self):
        self.check_order(log_key, [
            [],
            [[]], [["a"]], [["b"]], [["aa"]], [["zzzz"]], [["a", "b"]], [["b", "a"]], [["a", "aa"]], [["aa", "a"]],
            [["a", "a", "a"]],
            [[], []], [[], ["b"]], [["a"], []], [["z"], []], [[], ["aa"]],
            [[], ["b", "c"]], [["a"], ["z"]], [["a", "a"], []], [["b"], ["a"]], [["a"], ["bb"]],
            [[], [], []], [["a"], [], []],
        ])

    def test_words_in_logs_compare_as_strings(self):
        # Of as many characters in all, the longer word may come first here.
        self.check_order(log_key, [[["aa", "b"]], [["b", "aa"]]])
        self.check_order(log_key, [[["a-", "a"]], [["aa", "-"]]])

    def test_fewer_words_come_before_fewer_characters(self):
        self.check_order(log_key, [[["z" * 200]], [["-", "-"]]])
        self.check_order(log_key, [[["z" * 200] * 50], [[], []]])

    def test_equal_keys(self):
        self.assertEqual(word_key("ab"), word_key("ab"))
        self.assertEqual(log_key([["a"], []]), log_key([["a"], []]))
        self.assertNotEqual(log_key([["a"], []]), log_key([[], ["a"]]))

    def test_keys_are_new_tuples(self):
        log = [["a"], []]
        key = log_key(log)
        self.assertIs(type(word_key("a")), tuple)
        self.assertIs(type(key), tuple)
        log[0][0] = "b"
        log.append(["c"])
        self.assertEqual(key, log_key([["a"], []]))


if __name__ == "__main__":
    unittest.main()
