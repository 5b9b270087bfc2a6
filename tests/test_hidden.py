"""Promises 2, 7 and 8: the secrets behind a word, the words for a secret place, and among how many it is hidden."""

import itertools
import unittest

from blackbars import hidden as hidden_module
from blackbars.cases import Case
from blackbars.errors import BadLog, BadPlace
from blackbars.hidden import hidden, secret_lot, words_for
from blackbars.lots import begin_lot, end_lot, none_lot, shape_lot, size_lot, word_lot
from tests.helper import (
    DIGITS, EVERY, LETTERS, Checks, drawn, drawn_aheads, drawn_case, drawn_places, drawn_word, log_with,
    plain_is_secret, plain_masked, plain_shown, secrets_up_to, short_secret, words_up_to,
)
from tests.test_cases import CASE, LOG, NO_LOGS, NO_PLACES, NO_SPOTS

EXAMPLE = """
    >>> from blackbars.cases import Case
    >>> from blackbars.hidden import hidden
    >>> letters = (('letters', 1, 4),)
    >>> views = [((('user-',), letters, ('first', 2)),), ((('user-',), letters, ('last', 2)),)]
    >>> case = Case(views, [(('user-',), letters)])
    >>> log = [['user-', 'abba']]
    >>> [hidden(case, log, (0, 1), places) for places in ([0], [1], [0, 1], [])]
    [703, 703, 2, 475254]
"""

OUT = ("out",)


def is_for_place(case, log, spot, places, word):
    """Return whether a word could stand at a spot of a log, as [8] says."""
    line, at = spot
    other = [list(words) for words in log]
    other[line][at] = word
    ahead = log[line][at - 1] if at else ""
    return plain_is_secret(case.secrets, ahead, word) and all(
        plain_masked(case.views[place], log) == plain_masked(case.views[place], other) for place in places)


class HiddenChecks(Checks):
    def check_numbers(self, case, line, at, numbers):
        """Check among how many words a secret is hidden, for several lists of places."""
        for places, many in numbers:
            arguments = {"case": case, "log": [["b"], line], "spot": (1, at), "places": places}
            self.assertEqual(self.call(hidden, **arguments), many, (line, places))
            self.assertEqual(self.call(words_for, **arguments).count(), many)


class ExampleTest(Checks):
    def test_example(self):
        self.check_example(EXAMPLE)

    def test_defined_here(self):
        self.check_defined(hidden_module, ["secret_lot", "words_for", "hidden"])


class SecretLotTest(Checks):
    def test_lots(self):
        case = Case([()], [(("", "a"), LETTERS), (("a", "b"), (("digits", 1, 2),))])
        letters = shape_lot(LETTERS) - word_lot("a") - word_lot("b")
        digits = shape_lot((("digits", 1, 2),))
        for ahead, expected in (("", letters), ("a", letters | digits), ("b", digits), ("c", none_lot()), ("7", none_lot())):
            self.assertEqual(self.call(secret_lot, case=case, ahead=ahead), expected)

    def test_no_words(self):
        case = Case([()], [(("a", "b"), (("text", "a"),))])
        self.assertEqual(secret_lot(case, "a"), none_lot())
        self.assertEqual(case.places([["a", "a", "a"]]), [])

    def test_against_all_words(self):
        draw = drawn(1)
        for _ in range(60):
            case = drawn_case(draw)
            for ahead in [*drawn_aheads(case), "zz"]:
                lot = secret_lot(case, ahead)
                expected = secrets_up_to(case, ahead, 2)
                self.assertEqual([word for word in words_up_to(2) if word in lot], expected)
                self.assertEqual(lot.count_of(1) + lot.count_of(2), len(expected))


class NumbersTest(HiddenChecks):
    def test_acts(self):
        secrets = [(("a",), (("letters", 1, 3),))]
        every = 26 + 26 ** 2 + 26 ** 3 - 1
        acts = [
            (("keep",), 1), (("put", "x"), every), (("first", 1), 1 + 26 + 676), (("first", 2), 1 + 26), (("first", 3), 1),
            (("last", 1), 1 + 26 + 676), (("last", 2), 1 + 26), (("stars",), 26 ** 3), (OUT, every),
        ]
        for act, many in acts:
            case = Case([(((), EVERY, act),)], secrets)
            self.check_numbers(case, ["a", "bob"], 1, [([0], many), ([], every), ([0, 0], many), ((0,), many)])

    def test_no_views_and_a_place_twice(self):
        case = Case([(((), EVERY, ("first", 1)),), ()], [(("a",), (("digits", 2, 2),))])
        self.check_numbers(case, ["a", "42"], 1, [([], 100), ([0], 10), ([0, 0], 10), ([1], 1), ([1, 0, 1], 1)])

    def test_several_views_know_more(self):
        views = [(((), EVERY, act),) for act in (("first", 1), ("last", 1), ("stars",))]
        case = Case(views, [(("a",), (("digits", 1, 4),))])
        numbers = [([0], 1111), ([1], 1111), ([2], 1000), ([0, 1], 1 + 10 + 100), ([0, 2], 100), ([2, 1, 0], 10), ([], 11110)]
        self.check_numbers(case, ["a", "123"], 1, numbers)
        numbers = [([0, 1], 1 + 1 + 10 + 100), ([0, 1, 2], 1), ([0, 2], 1), ([1, 2], 1)]
        self.check_numbers(case, ["a", "7"], 1, numbers)

    def test_overlapping_begins_and_ends(self):
        views = [(((), EVERY, ("first", 3)),), (((), EVERY, ("last", 3)),)]
        case = Case(views, [(("x",), (("letters", 3, 6),))])
        for word, many in (("aaa", 4), ("aba", 3), ("abab", 2), ("ababa", 3), ("abcabc", 2), ("abcd", 2), ("abcdef", 1),
                           ("abccba", 2), ("abcdcb", 1), ("aaaa", 4), ("abbabb", 2)):
            self.check_numbers(case, ["x", word], 1, [([0, 1], many)])

    def test_endless(self):
        views = [(((), DIGITS, ("first", 1)),), ()]
        case = Case(views, [(("a",), LETTERS), (("a",), DIGITS)])
        self.check_numbers(case, ["a", "42"], 1, [([0], None), ([], None), ([1], 1), ([0, 1], 1)])
        self.check_numbers(case, ["a", "bob"], 1, [([0], 1), ([], None)])

    def test_a_text_that_reads_like_another(self):
        view = (((), (("text", "bob"),), ("put", "a*")), ((), (("letters", 1, 2),), ("first", 2)),
                ((), (("digits", 1, 3),), ("stars",)), ((), (("letters", 3, 3),), ("put", "**")))
        case = Case([view], [(("x",), (("any", 1, 3),))])
        letters = 26 ** 3 - 1
        answers = [("bob", 2), ("a", 2), ("b", 1), ("ab", 1), ("7", 10), ("77", 100 + letters), ("bub", 100 + letters),
                   ("123", 1000), ("a-", 1)]
        for word, many in answers:
            self.check_numbers(case, ["x", word], 1, [([0], many)])

    def test_texts_that_read_like_begins_and_ends(self):
        # Two words are shown as the text that is put for words of four characters, or more, if they are cut there.
        answers = [
            (("first", 1), "b*", "b", ["bu"]), (("first", 2), "bo*", "bo", ["bob"]), (("first", 3), "bo*", "bo", []),
            (("last", 1), "*b", "b", ["ob"]), (("last", 2), "*ob", "ob", ["bob"]), (("last", 3), "*ob", "ob", []),
            (("last", 3), "*bob", "bob", []), (("first", 3), "bob*", "bob", []), (("last", 2), "*b", "b", []),
        ]
        for act, text, word, longer in answers:
            view = (((), (("text", "zzzz"),), ("put", text)), ((), EVERY, act))
            case = Case([view], [(("u",), (("text", "zzzz"),)), (("u",), (("text", word),)), (("u",), (("text", "7"),))])
            self.check_numbers(case, ["u", word], 1, [([0], 2)])
            self.check_numbers(case, ["u", "zzzz"], 1, [([0], 2)])
            self.check_numbers(case, ["u", "7"], 1, [([0], 1)])
            for other in longer:
                secrets = [(("u",), (("text", "zzzz"),)), (("u",), (("text", word),)), (("u",), (("text", other),))]
                self.check_numbers(Case([view], secrets), ["u", other], 1, [([0], 3)])

    def test_labels_that_fit_the_shape(self):
        case = Case([(((), EVERY, ("first", 1)),)], [(("bob", "user"), (("letters", 1, 3),))])
        self.check_numbers(case, ["user", "bil"], 1, [([0], 1 + 26 + 676 - 1), ([], 26 + 676 + 17576 - 1)])
        self.check_numbers(case, ["bob", "al"], 1, [([0], 1 + 26 + 676)])
        self.assertEqual(case.places([["user", "bob"]]), [])

    def test_the_word_behind_tells(self):
        view = (((), LETTERS[:1], ("put", "x")), (("bob",), DIGITS, ("put", "y")), (("al", "bub"), DIGITS, ("stars",)))
        case = Case([view, view], [(("a",), (("letters", 1, 3),))])
        every = 26 + 676 + 17576 - 1
        answers = [("bob", "7", 1), ("al", "7", 2), ("bub", "77", 2), ("cab", "7", every - 3), ("bob", "b", every),
                   ("cab", "a-", every), ("bob", None, every), ("al", None, every)]
        for word, further, many in answers:
            line = [part for part in ("a", word, further) if part]
            self.check_numbers(case, line, 1, [([0], many), ([1, 0], many), ([], every)])

    def test_left_out(self):
        view = (((), DIGITS, OUT), ((), LETTERS, ("first", 1)))
        case = Case([view], [(("a",), (("any", 1, 2),))])
        self.check_numbers(case, ["a", "7"], 1, [([0], 110)])
        self.check_numbers(case, ["a", "7", "7"], 1, [([0], 110)])
        self.check_numbers(case, ["a", "xy", "b"], 1, [([0], 27)])
        self.check_numbers(case, ["a", "x-", "b"], 1, [([0], 1)])

    def test_other_words_stay_as_they_are(self):
        case = Case([(((), DIGITS, OUT), ((), EVERY, ("put", "x")))], [(("a",), (("any", 1, 1),))])
        line = ["a", "1", "a", "z"]
        self.check_numbers(case, line, 1, [([0], 10)])
        self.check_numbers(case, line, 3, [([0], 26)])

    def test_same_secret_twice_and_long_words(self):
        secret = (("a",), (("letters", 1, None),))
        case = Case([(((), EVERY, ("stars",)),)] * 3, [secret] * 3)
        self.check_numbers(case, ["a", "z" * 200], 1, [([0, 1, 2], 26 ** 200), ([], None)])

    def test_exact_lots(self):
        views = [(((), EVERY, ("first", 2)),), (((), EVERY, ("last", 3)),), (((), EVERY, ("stars",)),)]
        case = Case(views, [(("a",), LETTERS)])
        log, spot = [["a", "abcdefg"]], (0, 1)
        letters = shape_lot(LETTERS) - word_lot("a")
        self.assertEqual(words_for(case, log, spot, []), letters)
        self.assertEqual(words_for(case, log, spot, [0]), letters & begin_lot("ab"))
        self.assertEqual(words_for(case, log, spot, [0, 1]), letters & begin_lot("ab") & end_lot("efg"))
        self.assertEqual(words_for(case, log, spot, [2, 0]), letters & begin_lot("ab") & size_lot(7))


class AllWordsTest(Checks):
    def check_log(self, case, log, spot, places, size):
        lot = words_for(case, log, spot, places)
        expected = [word for word in words_up_to(size) if is_for_place(case, log, spot, places, word)]
        self.assertEqual([word for word in words_up_to(size) if word in lot], expected, (case.views, case.secrets, log))
        self.assertEqual(sum(lot.count_of(k) for k in range(1, size + 1)), len(expected))
        self.assertIn(log[spot[0]][spot[1]], lot)
        self.assertEqual(hidden(case, log, spot, places), lot.count())
        return len(expected)

    def drawn_logs(self, draw, case, many):
        for _ in range(many):
            ahead = draw.choice(drawn_aheads(case))
            words = secrets_up_to(case, ahead, 2) + secret_lot(case, ahead).words(30)
            names = [word for view in case.views for rule in view for word in rule[0] if word in words]
            if words:
                further = draw.choice((None, "a", "0", "ab", "-", drawn_word(draw, 3)))
                yield log_with(ahead, draw.choice(words + names * 30), further)

    def test_words_of_two(self):
        draw = drawn(2)
        for _ in range(120):
            case = drawn_case(draw)
            for log, spot in self.drawn_logs(draw, case, 3):
                self.check_log(case, log, spot, drawn_places(draw, case), 2)

    def test_words_of_three(self):
        draw = drawn(3)
        for _ in range(12):
            case = drawn_case(draw, short_secret)
            for log, spot in self.drawn_logs(draw, case, 1):
                places = drawn_places(draw, case)
                many = self.check_log(case, log, spot, places, 3)
                self.assertEqual(hidden(case, log, spot, places), many)

    def test_every_spot_of_a_log(self):
        draw = drawn(4)
        for _ in range(60):
            case = drawn_case(draw, short_secret)
            logs = [log for log, _ in self.drawn_logs(draw, case, 3)]
            log = [list(itertools.chain(*(part[0] for part in logs[:2]))), *(part[0] for part in logs[2:])]
            for spot in case.places(log):
                self.check_log(case, log, spot, drawn_places(draw, case), 2)

    def test_numbers_of_all_secrets(self):
        draw = drawn(5)
        for _ in range(25):
            case = drawn_case(draw, short_secret)
            places = drawn_places(draw, case)
            for ahead in drawn_aheads(case):
                groups = {}
                for word in secrets_up_to(case, ahead, 3):
                    key = str([plain_shown(case.views[place], ahead, word) for place in places])
                    groups.setdefault(key, []).append(word)
                for words in list(groups.values())[:60]:
                    log, spot = log_with(ahead, words[-1])
                    self.assertEqual(hidden(case, log, spot, places), len(words))


class ErrorsTest(Checks):
    def test_the_very_first_error(self):
        for function in (words_for, hidden):
            for value in NO_LOGS:
                self.check_raised(BadLog, value, function, case=CASE, log=value, spot=(0, 1), places=[0])
                self.check_raised(BadLog, value, function, case=CASE, log=value, spot=None, places=[None])
            for value in NO_SPOTS:
                self.check_raised(BadPlace, value, function, case=CASE, log=LOG, spot=value, places=[0])
                self.check_raised(BadPlace, value, function, case=CASE, log=LOG, spot=value, places=["later"])
            for value in NO_PLACES:
                for places in ([value], [0, value, "later"], (1, 1, value)):
                    self.check_raised(BadPlace, value, function, case=CASE, log=LOG, spot=(0, 1), places=places)

    def test_nothing_is_changed(self):
        case = Case([(((), EVERY, ("first", 1)),)], [(("a",), LETTERS)])
        with self.assertRaises(BadPlace):
            hidden(case, [["a", "bob"]], (0, 0), [0])
        lot = words_for(case, [["a", "bob"]], (0, 1), [0])
        self.assertEqual(lot - word_lot("bob") | word_lot("bob"), words_for(case, [["a", "bob"]], (0, 1), [0]))
        self.assertEqual(case.views, ((((), EVERY, ("first", 1)),),))


if __name__ == "__main__":
    unittest.main()
