"""Promises 2, 5 and 6: acts, rules, views, what is done and shown, and masked logs."""

import unittest

from blackbars import views
from blackbars.errors import BadLog
from blackbars.views import done_rule, is_act, is_rule, is_view, masked, shown
from tests.helper import (
    DIGITS, EVERY, LETTERS, Checks, any_values, drawn, drawn_view, drawn_word, nested, plain_done, plain_masked,
    plain_shown, words_up_to,
)

EXAMPLE = """
    >>> from blackbars.views import done_rule, masked, shown
    >>> letters, digits = (('letters', 1, None),), (('digits', 1, None),)
    >>> view = ((('user-',), letters, ('put', '**')), ((), digits, ('last', 2)))
    >>> masked(view, [['user-', 'bob', '1234', 'a1'], ['bob']])
    [['user-', '**', '*34', 'a1'], ['bob']]
    >>> [done_rule(view, '', '7'), done_rule(view, '', 'bob'), shown(view, 'a', '7')]
    [1, None, ['*7']]
"""

KEEP = ("keep",)
RULE = (("a",), LETTERS, KEEP)
NO_VIEWS = [
    [], [RULE], RULE, (list(RULE),), (RULE, None), (RULE, ()), ((RULE,),), {RULE: 1}, (RULE, "keep"), (RULE,) * 7,
    *[value for value in any_values() if value != () or not isinstance(value, tuple)],
]


class ExampleTest(Checks):
    def test_example(self):
        self.check_example(EXAMPLE)

    def test_defined_here(self):
        self.check_defined(views, ["is_act", "is_rule", "is_view", "done_rule", "shown", "masked"])


class ActTest(Checks):
    def test_acts(self):
        acts = [
            ("keep",), ("stars",), ("out",), ("first", 1), ("first", 2), ("first", 3), ("last", 1), ("last", 3),
            ("put", "x"), ("put", "*"), ("put", "******"), ("put", "a*b-09"), ("put", "abcdef"),
        ]
        for act in acts:
            self.check_judged(is_act, act, True)

    def test_no_acts(self):
        wrong = [
            ["keep"], ["first", 1], "keep", ("keep", 1), ("keep", None), ("stars", "*"), ("out", ""), ("put",),
            ("first",), ("last",), ("put", ""), ("put", "abcdefg"), ("put", "A"), ("put", "a b"), ("put", "a\n"),
            ("put", 1), ("put", None), ("put", ["x"]), ("put", ("x",)), ("put", {"x": 1}), ("put", "x", "y"),
            ("first", 0), ("first", 4), ("first", -1), ("first", True), ("first", "1"), ("first", None),
            ("last", True), ("last", False), ("last", 10 ** 59), ("last", [1]), ("last", (1,)), ("last", {}),
            ("first", 1, 1), ("Keep",), ("",), (None,), (1,), (["keep"],), (("keep",),), ({},), (True, 1),
            (["put"], "x"), (("put",), "x"), ({}, "x"), ("x", "put"), (nested(99, list),), (nested(99, tuple), 1),
            ("put", nested(99, dict)), ("first", nested(99, list)), {"keep": 1}, ("keep", "keep"),
        ]
        for value in [*wrong, *any_values()]:
            self.check_judged(is_act, value, False)


class RuleTest(Checks):
    def test_behinds(self):
        right = [
            (), ("",), ("a",), ("", "a"), ("-", "0", "a", "b"), ("a", "ab", "b"), ("", "-", "0", "z"), ("a" * 12,),
            ("aa", "b"), ("user-", "user7"),
        ]
        wrong = [
            ("b", "a"), ("a", ""), ("a", "a"), ("", ""), ("a", "b", "b"), ("a", "b", "c", "d", "e"), ("b", "aa"),
            ("a" * 13,), ("A",), ("*",), ("a*",), ("a b",), (None,), (1,), (True,), (["a"],), (("a",),), ({},),
            ["a"], [], "a", "", None, {}, {"a": 1}, ("a", None), ("a", 1), ("a", ["b"]), ("0", "-"), (1, "a"),
            (nested(98, list),), ("a", nested(98, tuple)), nested(99, list), nested(99, dict), nested(99, tuple),
        ]
        for behind in right:
            self.check_judged(is_rule, (behind, LETTERS, KEEP), True)
        for behind in wrong:
            self.check_judged(is_rule, (behind, LETTERS, KEEP), False)

    def test_no_rules(self):
        wrong = [
            list(RULE), (("a",), LETTERS), (*RULE, KEEP), (LETTERS, ("a",), KEEP), (("a",), KEEP, LETTERS),
            (("a",), list(LETTERS), KEEP), (("a",), LETTERS[0], KEEP), (("a",), (), KEEP), (("a",), LETTERS, "keep"),
            (("a",), LETTERS, ["keep"]), (("a",), LETTERS, ()), (("a",), LETTERS, None), (("a",), None, KEEP),
            (("a",), (("letters", True, 2),), KEEP), (("a",), LETTERS * 5, KEEP), (RULE,), {}, "rule",
            (nested(99, tuple), LETTERS, KEEP), (("a",), nested(99, tuple), KEEP), (("a",), LETTERS, nested(99, tuple)),
        ]
        for value in [*wrong, *any_values()]:
            self.check_judged(is_rule, value, False)


class ViewTest(Checks):
    def test_at_most_six_rules(self):
        for many in range(10):
            self.check_judged(is_view, (RULE,) * many, many <= 6)

    def test_drawn(self):
        draw = drawn(1)
        for _ in range(100):
            self.check_judged(is_view, drawn_view(draw), True)

    def test_no_views(self):
        for value in NO_VIEWS:
            self.check_judged(is_view, value, False)


class ShownTest(Checks):
    def check(self, act, word, expected, view=None):
        view = view or (((), EVERY, act),)
        with self.subTest(act=act, word=word):
            self.assertEqual(self.call(shown, view=view, ahead="", word=word), expected)

    def test_acts(self):
        self.check(("keep",), "ab", ["ab"])
        self.check(("put", "x*"), "ab", ["x*"])
        self.check(("stars",), "a", ["*"])
        self.check(("stars",), "abc-0", ["*****"])
        self.check(("stars",), "a" * 200, ["*" * 200])
        self.check(("out",), "ab", [])

    def test_first_and_last(self):
        for k in (1, 2, 3):
            for word in ("a", "ab", "abc", "abcd", "0" * 200):
                self.check(("first", k), word, [word[:k] + "*"])
                self.check(("last", k), word, ["*" + word[max(len(word) - k, 0):]])
        self.check(("first", 3), "ab", ["ab*"])
        self.check(("last", 3), "ab", ["*ab"])
        self.check(("last", 2), "a", ["*a"])

    def test_no_rule(self):
        self.assertEqual(shown((), "", "ab"), ["ab"])
        self.assertIsNone(done_rule((), "a", "ab"))
        self.assertEqual(masked((), [["a", "b"], []]), [["a", "b"], []])

    def test_behinds(self):
        view = ((("", "a"), EVERY, ("put", "x")), ((), DIGITS, ("put", "y")), (("b",), EVERY, ("put", "z")))
        answers = {("", "a"): 0, ("a", "7"): 0, ("b", "7"): 1, ("b", "a"): 2, ("c", "a"): None, ("c", "7"): 1}
        for (ahead, word), place in answers.items():
            self.assertEqual(self.call(done_rule, view=view, ahead=ahead, word=word), place)

    def test_keep_ends_the_search(self):
        view = (((), DIGITS, ("keep",)), ((), EVERY, ("stars",)))
        self.assertEqual([done_rule(view, "", "7"), done_rule(view, "", "a")], [0, 1])
        self.assertEqual(masked(view, [["7", "a"]]), [["7", "*"]])

    def test_a_rule_that_is_for_no_word(self):
        view = ((("a",), (("text", "b"),), ("out",)), (("a",), (("text", "b"),), ("stars",)))
        self.assertEqual(done_rule(view, "a", "b"), 0)
        self.assertEqual(masked(view, [["b", "a", "b"]]), [["b", "a"]])

    def test_new_lists(self):
        view = (((), EVERY, ("out",)),)
        shown(view, "", "a").append("b")
        self.assertEqual(shown(view, "", "a"), [])


class MaskedTest(Checks):
    def check(self, view, log, expected):
        with self.subTest(view=view, log=log):
            self.assertEqual(self.call(masked, view=view, log=log), expected)

    def test_lines(self):
        view = (((), DIGITS, ("out",)),)
        self.check(view, [], [])
        self.check(view, [[], ["1"], ["a", "1", "b"]], [[], [], ["a", "b"]])

    def test_a_word_left_out_is_the_word_ahead(self):
        view = (((), DIGITS, ("out",)), (("1",), LETTERS, ("put", "x")), (("b",), LETTERS, ("put", "y")))
        self.check(view, [["b", "1", "a", "b"]], [["b", "x", "b"]])

    def test_a_masked_word_is_the_word_ahead_as_it_is(self):
        view = ((("a",), LETTERS, ("put", "a")), (("b",), LETTERS, ("put", "c")))
        self.check(view, [["a", "b", "b", "c"]], [["a", "a", "c", "c"]])

    def test_begin_of_a_line(self):
        view = ((("",), EVERY, ("stars",)),)
        self.check(view, [["ab", "ab"], ["a"]], [["**", "ab"], ["*"]])

    def test_largest_logs(self):
        log = [["a" * 200] * 50] * 50
        self.check((((), LETTERS, ("last", 3)),), log, [["*aaa"] * 50] * 50)

    def test_the_masked_log_is_new(self):
        log = [["a"], ["b", "c"]]
        found = masked((), log)
        found[0].append("x")
        found.append([])
        self.assertEqual(log, [["a"], ["b", "c"]])
        again = masked((), log)
        log[0][0] = "z"
        self.assertEqual(again, [["a"], ["b", "c"]])

    def test_bad_logs(self):
        view = (((), EVERY, ("stars",)),)
        wrong = [
            (), ((),), [()], [("a",)], ["a"], "a", [["a"], ("b",)], [["a", ""]], [["A"]], [["a*"]], [[None]], [[["a"]]],
            [["a"], None], None, 1, True, {}, [{}], nested(100, list), nested(100, tuple), nested(100, dict),
        ]
        for value in wrong:
            self.check_raised(BadLog, value, masked, view=view, log=value)

    def test_against_a_plain_reading(self):
        draw = drawn(2)
        for _ in range(300):
            view = drawn_view(draw)
            log = [[drawn_word(draw, 3) for _ in range(draw.randint(0, 5))] for _ in range(draw.randint(0, 3))]
            self.check(view, log, plain_masked(view, log))

    def test_all_words_of_two(self):
        draw = drawn(3)
        for _ in range(25):
            view, ahead = drawn_view(draw), draw.choice(("", "a", "b", "0", "zz"))
            for word in words_up_to(2):
                self.assertEqual(done_rule(view, ahead, word), plain_done(view, ahead, word), (view, ahead, word))
                self.assertEqual(shown(view, ahead, word), plain_shown(view, ahead, word), (view, ahead, word))

    def test_all_words_of_three(self):
        draw = drawn(4)
        for _ in range(3):
            view, ahead = drawn_view(draw), draw.choice(("", "a", "b"))
            for word in words_up_to(3):
                self.assertEqual(shown(view, ahead, word), plain_shown(view, ahead, word), (view, ahead, word))


if __name__ == "__main__":
    unittest.main()
