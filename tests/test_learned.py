"""Promises 2, 3, 8 and 13: the least logs that show something of secrets, and still papers."""

import itertools
import unittest

from blackbars import learned
from blackbars.cases import Case
from blackbars.errors import BadPlace, Shown
from blackbars.hidden import hidden
from blackbars.learned import first_shown, is_still_paper, need_hidden, other_log, still_paper
from blackbars.words import log_key
from tests.helper import (
    DIGITS, EVERY, LETTERS, Checks, any_values, drawn, drawn_aheads, drawn_case, drawn_log, drawn_places,
    plain_is_secret, plain_masked, secrets_up_to, short_secret, words_of,
)
from tests.test_cases import CASE, NO_PLACES

EXAMPLE = """
    >>> from blackbars.cases import Case
    >>> from blackbars.learned import first_shown, other_log, still_paper
    >>> letters = (('letters', 1, None),)
    >>> view = ((('user-',), letters, ('put', 'x')), (('bob',), letters, ('put', 'y')))
    >>> case = Case([view], [(('user-',), letters)])
    >>> log = first_shown(case, [0])
    >>> [log, other_log(case, [0], log)]
    [[['user-', 'a', 'a']], [['user-', 'bob', 'a']]]
    >>> still_paper(Case([view[:1]], [(('user-',), letters)]), [0])
    {'user-': [['x']]}
"""

OUT = ("out",)
X = (((), EVERY, ("put", "x")),)
# Of the characters that drawn cases do not name, the least ones of each kind stand for all.
FEW = "-01abcdu"


def small_logs():
    """Return all logs of one line with at most three words and four characters, in order."""
    words = {size: words_of(size, FEW) for size in (1, 2, 3, 4)}
    logs = []
    for many in (1, 2, 3):
        for sizes in itertools.product((1, 2, 3), repeat=many):
            if sum(sizes) <= 4 - (many == 3):
                logs += [[list(line)] for line in itertools.product(*[words[size] for size in sizes])]
    return sorted(logs, key=log_key)


SMALL_LOGS = small_logs()
ALL_OTHERS = [word for size in (1, 2, 3) for word in words_of(size, FEW)]


class LearnedChecks(Checks):
    def check_shown(self, case, places, log, other):
        """Check all functions for a case in which the least two logs are these."""
        with self.subTest(views=case.views, secrets=case.secrets, places=places):
            self.assertEqual(self.call(first_shown, case=case, places=places), log)
            self.assertEqual(self.call(other_log, case=case, places=places, log=log), other)
            for call in (lambda: need_hidden(case, places), lambda: need_hidden(case=case, places=places)):
                with self.assertRaises(Shown) as caught:
                    call()
                self.assertEqual(caught.exception.pair, (log, other))
                self.assertIs(type(caught.exception.pair), tuple)
            self.assertIsNone(self.call(still_paper, case=case, places=places))
            for value in ({}, None, {"a": []}, *[{ahead: [["x"]] * len(places)} for ahead in drawn_aheads(case)]):
                self.check_judged(is_still_paper, value, False, case=case, places=places)

    def check_still(self, case, places, paper):
        """Check all functions for a case in which nothing can be learned."""
        with self.subTest(views=case.views, secrets=case.secrets, places=places):
            self.assertIsNone(self.call(first_shown, case=case, places=places))
            self.assertIsNone(self.call(need_hidden, case=case, places=places))
            self.assertEqual(self.call(still_paper, case=case, places=places), paper)
            self.check_judged(is_still_paper, paper, True, case=case, places=places)
            for ahead in drawn_aheads(case):
                for word in secrets_up_to(case, ahead, 1)[:2]:
                    log = [[part for part in (ahead, word) if part] + ["z"]]
                    self.assertIsNone(self.call(other_log, case=case, places=places, log=log))


class ExampleTest(Checks):
    def test_example(self):
        self.check_example(EXAMPLE)

    def test_defined_here(self):
        names = ["first_shown", "other_log", "need_hidden", "is_still_paper", "still_paper"]
        self.check_defined(learned, names)


class ShownTest(LearnedChecks):
    def test_one_word(self):
        case = Case([(((), EVERY, ("stars",)),)], [(("",), LETTERS)])
        self.check_shown(case, [0], [["a"]], [["aa"]])

    def test_two_words(self):
        case = Case([(((), EVERY, ("first", 1)),)], [(("b", "id-"), DIGITS)])
        self.check_shown(case, [0], [["b", "0"]], [["b", "1"]])

    def test_the_word_behind_alone(self):
        view = ((("",), EVERY, ("put", "x")), (("ab",), DIGITS, ("put", "y")))
        case = Case([view], [(("",), (("letters", 2, 3),))])
        self.check_shown(case, [0], [["aa", "0"]], [["ab", "0"]])
        case = Case([view], [(("",), (("text", "ab"),)), (("",), (("text", "c"),))])
        self.check_shown(case, [0], [["c", "0"]], [["ab", "0"]])

    def test_three_words(self):
        view = ((("u",), EVERY, ("put", "x")), (("bob",), (("any", 2, None),), ("first", 1)))
        case = Case([view], [(("u",), (("letters", 3, 3),))])
        self.check_shown(case, [0], [["u", "aaa", "--"]], [["u", "bob", "--"]])

    def test_the_word_behind_reads_like_another(self):
        # Behind bob, "a" is shown as it is elsewhere, and words that begin with b are shown as they are by first.
        view = ((("u",), EVERY, ("put", "x")), (("bob",), (("any", 1, 1),), ("put", "-")),
                (("bob",), LETTERS, ("put", "a*")), ((), LETTERS, ("first", 1)))
        case = Case([view], [(("u",), (("letters", 3, 3),))])
        self.check_shown(case, [0], [["u", "aaa", "0"]], [["u", "bob", "0"]])
        view = ((("u",), EVERY, ("put", "x")), (("bob",), (("letters", 1, 1),), ("keep",)),
                (("bob",), (("text", "00"),), ("put", "00")), (("bob",), (("text", "0a"),), ("put", "*")))
        case = Case([view], [(("u",), (("letters", 3, 3),))])
        self.check_shown(case, [0], [["u", "aaa", "0a"]], [["u", "bob", "0a"]])

    def test_fewer_characters_come_first(self):
        case = Case([(((), EVERY, ("first", 1)),)], [(("ab", "b"), (("text", "zz"),)), (("ab", "z"), LETTERS)])
        self.check_shown(case, [0], [["z", "a"]], [["z", "c"]])

    def test_a_behind_is_never_secret(self):
        case = Case([(((), EVERY, ("first", 1)),)], [(("a", "b"), LETTERS)])
        self.check_shown(case, [0], [["a", "c"]], [["a", "d"]])

    def test_several_views(self):
        views = [X, ((("u",), DIGITS, OUT), ((), EVERY, ("put", "x"))), (((), EVERY, ("last", 1)),)]
        case = Case(views, [(("u",), EVERY)])
        self.check_still(case, [0], {"u": [["x"]]})
        self.check_shown(case, [1], [["u", "-"]], [["u", "0"]])
        self.check_shown(case, [0, 1, 0], [["u", "-"]], [["u", "0"]])
        self.check_shown(case, (2,), [["u", "-"]], [["u", "0"]])
        self.check_shown(case, [2, 2, 1], [["u", "-"]], [["u", "0"]])

    def test_against_all_small_logs(self):
        draw = drawn(1)
        found = 0
        for _ in range(60):
            case = drawn_case(draw)
            places = drawn_places(draw, case)
            log = first_shown(case, places)
            expected = next((each for each in SMALL_LOGS if self.differs(case, places, each)), None)
            if log == expected:
                found += log is not None
                continue
            # One of fewer but longer words may come before the small ones.
            self.assertNotIn(log, SMALL_LOGS)
            self.assertIs(case.look_same(log, other_log(case, places, log), places), False)
            if expected is not None:
                self.assertLess(log_key(log), log_key(expected), (case.views, case.secrets, places))
        self.assertGreater(found, 15)

    def differs(self, case, places, log):
        """Return whether some log that is alike but for one secret looks different, by a plain reading."""
        line = log[0]
        views = [case.views[place] for place in places]
        for at, word in enumerate(line):
            ahead = line[at - 1] if at else ""
            if views and plain_is_secret(case.secrets, ahead, word):
                masks = [plain_masked(view, log) for view in views]
                names = [name for view in case.views for rule in view for name in rule[0] if name]
                for other in ALL_OTHERS + names:
                    if plain_is_secret(case.secrets, ahead, other):
                        logs = [line[:at] + [other] + line[at + 1:]]
                        if [plain_masked(view, logs) for view in views] != masks:
                            return True
        return False


class OtherTest(LearnedChecks):
    def check_other(self, case, places, log, other):
        self.assertEqual(self.call(other_log, case=case, places=places, log=log), other)

    def test_the_least_one(self):
        case = Case([(((), EVERY, ("first", 1)),)], [(("u",), LETTERS)])
        self.check_other(case, [0], [["u", "bob"], [], ["u", "x", "z"]], [["u", "a"], [], ["u", "a", "z"]])
        self.check_other(case, [0], [["u", "a"], [], ["u", "abc", "z"]], [["u", "a"], [], ["u", "b", "z"]])
        self.check_other(case, [0], [["u", "a"]], [["u", "b"]])
        for log in ([], [[]], [["u"]], [["u", "7"]], [["x", "a"]]):
            self.check_other(case, [0], log, None)
        self.check_other(case, [], [["u", "a"]], None)

    def test_which_secret_differs(self):
        # The last one is changed if none becomes longer; otherwise the one that gives the least line.
        case = Case([(((), EVERY, ("put", "x")),), (((), EVERY, ("stars",)),)], [(("u",), (("letters", 1, 2),))])
        self.check_other(case, [1], [["u", "a", "u", "a"]], [["u", "a", "u", "aa"]])
        case = Case([(((), DIGITS, ("stars",)), ((), EVERY, ("put", "*")))], [(("u",), (("text", "a"),)), (("u",), (("digits", 2, 2),))])
        self.check_other(case, [0], [["u", "a", "u", "a"]], [["u", "00", "u", "a"]])

    def test_secrets_that_make_up_for_each_other(self):
        view = (((), DIGITS, OUT), ((), EVERY, ("put", "x")))
        case = Case([view], [(("u",), (("any", 1, 1),))])
        # What is left out at one place is shown at another one: the least log looks the same, and others do not.
        self.check_other(case, [0], [["u", "-", "u", "0"]], [["u", "-", "u", "-"]])
        case = Case([view], [(("u",), DIGITS), (("v",), LETTERS), (("u", "v"), (("any", 1, 1),))])
        self.check_other(case, [0], [["u", "a", "v", "0"]], [["u", "-", "v", "-"]])
        view = ((("u",), (("text", "0"),), OUT), (("v",), (("text", "00"),), OUT), ((), EVERY, ("put", "x")))
        case = Case([view], [(("u",), (("digits", 1, 2),)), (("v",), (("digits", 1, 2),))])
        log, least = [["u", "7", "v", "00"]], [["u", "0", "v", "0"]]
        self.assertIs(case.look_same(log, least, [0]), True)
        self.check_other(case, [0], log, [["u", "1", "v", "0"]])

    def test_the_word_behind(self):
        view = ((("u",), EVERY, ("put", "x")), (("bob",), DIGITS, ("put", "y")))
        case = Case([view], [(("u",), LETTERS)])
        self.check_other(case, [0], [["u", "zz", "7"]], [["u", "bob", "7"]])
        self.check_other(case, [0], [["u", "bob", "7"]], [["u", "a", "7"]])
        self.check_other(case, [0], [["u", "bob", "a"]], None)
        self.check_other(case, [0], [["u", "zz", "7"], ["u", "bob", "7"]], [["u", "a", "7"], ["u", "a", "7"]])

    def test_against_plain_logs(self):
        draw = drawn(2)
        found = 0
        for _ in range(500):
            case = drawn_case(draw, short_secret)
            places, log = drawn_places(draw, case), drawn_log(draw, case)
            spots = case.places(log)
            other = other_log(case, places, log)
            if other is not None:
                self.assertIs(case.are_alike(log, other), True)
                self.assertIs(case.look_same(log, other, places), False)
            if not 1 <= len(spots) <= 2:
                continue
            expected = self.plain_other(case, places, log, spots)
            if expected is not None:
                found += 1
                self.assertLessEqual(log_key(other), log_key(expected))
                if other in self.logs:
                    self.assertEqual(other, expected)
        self.assertGreater(found, 20)

    def plain_other(self, case, places, log, spots):
        """Return the least other log with least words in the secret places, by a plain reading."""
        words = []
        for line, at in spots:
            known = secrets_up_to(case, log[line][at - 1] if at else "", 2)
            words.append(known[:12] if len(spots) == 2 else known[:200])
        self.logs = []
        for chosen in itertools.product(*words):
            other = [list(line) for line in log]
            for (line, at), word in zip(spots, chosen):
                other[line][at] = word
            self.logs.append(other)
        masks = [plain_masked(case.views[place], log) for place in places]
        shown = [other for other in self.logs
                 if [plain_masked(case.views[place], other) for place in places] != masks]
        return min(shown, key=log_key, default=None)


class StillTest(LearnedChecks):
    def test_no_places(self):
        case = Case([()], [(("", "a"), LETTERS), (("b", "c"), DIGITS)])
        self.check_still(case, [], {"": [], "a": [], "b": [], "c": []})

    def test_papers(self):
        case = Case([X, (((), DIGITS, OUT), ((), EVERY, ("put", "y*")))], [(("u", "v"), LETTERS), (("", "w"), DIGITS)])
        self.check_still(case, [0], {"u": [["x"]], "v": [["x"]], "": [["x"]], "w": [["x"]]})
        paper = {"u": [["y*"], ["x"], ["y*"]], "v": [["y*"], ["x"], ["y*"]], "": [[], ["x"], []], "w": [[], ["x"], []]}
        self.check_still(case, [1, 0, 1], paper)
        self.check_still(case, (1,), {"u": [["y*"]], "v": [["y*"]], "": [[]], "w": [[]]})

    def test_keys_in_any_sequence(self):
        case = Case([X], [(("a", "b"), DIGITS)])
        for paper in ({"a": [["x"]], "b": [["x"]]}, {"b": [["x"]], "a": [["x"]]}):
            self.check_judged(is_still_paper, paper, True, case=case, places=[0])

    def test_one_word_alone(self):
        # Nothing can be learned of a secret that can be one word alone.
        case = Case([()], [(("u",), (("text", "bob"),))])
        self.check_still(case, [0], {"u": [["bob"]]})
        self.assertEqual(hidden(case, [["u", "bob"]], (0, 1), [0]), 1)
        case = Case([()], [(("a", "u"), (("letters", 1, 1),)), (tuple("bcde"), LETTERS), (tuple("fghi"), LETTERS)])
        self.check_shown(case, [0], [["a", "j"]], [["a", "k"]])

    def test_secrets_without_a_word(self):
        case = Case([()], [(("a", "b"), (("text", "a"),))])
        self.check_still(case, [0], {})
        case = Case([()], [(("a", "b"), (("text", "a"),)), (("b",), (("text", "z"),))])
        self.check_still(case, [0, 0], {"b": [["z"], ["z"]]})

    def test_alike_begins_ends_and_sizes(self):
        secrets = [(("u",), (("text", "ab"), ("digits", 2, 2), ("text", "c")))]
        views = [(((), EVERY, act),) for act in (("first", 2), ("last", 1), ("stars",))]
        case = Case(views, secrets)
        self.check_still(case, [0, 1, 2], {"u": [["ab*"], ["*c"], ["*****"]]})
        case = Case([(((), EVERY, ("first", 3)),), (((), EVERY, ("last", 2)),)], secrets)
        self.check_shown(case, [0], [["u", "ab00c"]], [["u", "ab10c"]])
        self.check_shown(case, [1], [["u", "ab00c"]], [["u", "ab01c"]])

    def test_a_rule_that_shows_what_another_one_puts(self):
        view = (((), (("text", "a"), ("digits", 1, None)), ("first", 1)), ((), LETTERS, ("put", "a*")))
        case = Case([view], [(("u",), LETTERS), (("u",), (("text", "a"), ("digits", 1, None)))])
        self.check_still(case, [0], {"u": [["a*"]]})

    def test_the_word_behind_shows_the_same(self):
        view = ((("u",), EVERY, ("put", "x")), (("bob",), (("text", "7"),), ("put", "7")),
                (("bob",), (("text", "aa"),), ("first", 3)), ((), (("text", "aa"),), ("put", "aa*")))
        case = Case([view], [(("u",), (("letters", 3, 3),))])
        self.check_still(case, [0], {"u": [["x"]]})

    def test_wrong_papers(self):
        case = Case([X, ()], [(("u",), (("text", "bob"),)), (("v",), (("text", "al"),))])
        right = {"u": [["x"], ["bob"]], "v": [["x"], ["al"]]}
        self.check_still(case, [0, 1], right)
        wrong = [
            {}, {"u": [["x"], ["bob"]]}, {**right, "w": []}, {**right, "": [["x"], ["a"]]}, {"u": [["bob"], ["x"]], "v": right["v"]},
            {"u": [["x"]], "v": [["x"]]}, {"u": [["x"], ["bob"], []], "v": right["v"]}, {"u": ["x", "bob"], "v": right["v"]},
            {"u": (["x"], ["bob"]), "v": right["v"]}, {"u": [("x",), ["bob"]], "v": right["v"]}, {"u": None, "v": right["v"]},
            {"u": [["x"], ["bob"]], "v": [["x"], ["la"]]}, [right], (right,), [("u", right["u"]), ("v", right["v"])],
            {("u",): right["u"], "v": right["v"]}, {0: right["u"], "v": right["v"]}, {"u": [["x"], [True]], "v": right["v"]},
        ]
        for value in [*wrong, *any_values()]:
            self.check_judged(is_still_paper, value, False, case=case, places=[0, 1])
        self.check_judged(is_still_paper, {}, True, case=Case([()], [(("a",), (("text", "a"),))]), places=[])

    def test_papers_are_new(self):
        case = Case([X], [(("u",), LETTERS)])
        paper = still_paper(case, [0])
        paper["u"][0].append("y")
        paper["v"] = []
        self.assertEqual(still_paper(case, [0]), {"u": [["x"]]})
        case = Case([()], [(("u",), LETTERS)])
        for function in (lambda: first_shown(case, [0]), lambda: other_log(case, [0], [["u", "a"]])):
            found = function()
            expected = [list(line) for line in found]
            found[0].append("y")
            found.append([])
            self.assertEqual(function(), expected)

    def test_drawn(self):
        draw = drawn(3)
        for _ in range(150):
            case = drawn_case(draw)
            places = drawn_places(draw, case)
            log, paper = first_shown(case, places), still_paper(case, places)
            self.assertIs(log is None, paper is not None)
            if paper is not None:
                self.check_judged(is_still_paper, paper, True, case=case, places=places)
                for ahead in drawn_aheads(case):
                    words = secrets_up_to(case, ahead, 2)[::30]
                    self.assertTrue(ahead in paper or not words)
                    for word in words:
                        line = [part for part in (ahead, word) if part]
                        at = len(line) - 1
                        looks = [case.look([line], (0, at), place) for place in places]
                        self.assertEqual(paper[ahead], looks)
            else:
                other = other_log(case, places, log)
                self.assertIs(case.are_alike(log, other), True)
                self.assertIs(case.look_same(log, other, places), False)
                self.assertLess(log_key(log), log_key(other))


class ErrorsTest(Checks):
    def test_the_very_place(self):
        for value in NO_PLACES:
            for places in ([value], [0, 1, value, "later"], (value, None)):
                arguments = {"case": CASE, "places": places}
                for function in (first_shown, need_hidden, still_paper):
                    self.check_raised(BadPlace, value, function, **arguments)
                self.check_raised(BadPlace, value, other_log, **arguments, log=[["user-", "a"]])
                self.check_raised(BadPlace, value, is_still_paper, **arguments, value={})
                self.check_raised(BadPlace, value, is_still_paper, **arguments, value=None)


if __name__ == "__main__":
    unittest.main()
