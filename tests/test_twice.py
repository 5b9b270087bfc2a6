"""Promises 2, 3, 6 and 14: shown logs that are masked once more."""

import itertools
import unittest

from blackbars import twice
from blackbars.errors import BadLog
from blackbars.twice import first_twice, masked_twice
from blackbars.views import masked
from blackbars.words import log_key
from tests.helper import (
    DIGITS, EVERY, LETTERS, Checks, drawn, drawn_act, drawn_shape, drawn_view, names_of, plain_act, plain_fits,
    plain_masked, words_up_to,
)
from tests.test_cases import NO_LOGS

EXAMPLE = """
    >>> from blackbars.twice import first_twice, masked_twice
    >>> view = (((), (('digits', 1, None),), ('out',)), (('a',), (('letters', 1, None),), ('put', 'b')))
    >>> [first_twice(view), masked_twice(view, [['a', '0', 'a']])]
    [[['a', '0', 'a']], [['a', 'b']]]
"""
OUT = ("out",)
STARS = ("stars",)
ANY = ("any", 0, None)


def text_shape(word):
    return (("text", word),)


def plain_twice(view, log):
    """Return the masked log of the masked log, text by text, as [14] says."""
    found = []
    for line in plain_masked(view, log):
        found.append([])
        for at, text in enumerate(line):
            told = [text]
            for behind, shape, act in view if "*" not in text else ():
                if (behind == () or (line[at - 1] if at else "") in behind) and plain_fits(shape, text):
                    told = plain_act(act, text)
                    break
            found[-1] += told
    return found


def is_told_apart(view, log):
    return plain_twice(view, log) != plain_masked(view, log)


class TwiceChecks(Checks):
    def check_first(self, view, log):
        with self.subTest(view=view):
            self.assertEqual(self.call(first_twice, view=view), log)
            words = sorted({*names_of(view), "-", "0", "1", "a", "00", "aa"}, key=lambda word: (len(word), word))
            lines = [[list(line)] for many in (1, 2, 3, 4) for line in itertools.product(words[:9], repeat=many)]
            apart = [other for other in lines if is_told_apart(view, other)]
            if log is None:
                self.assertEqual(apart, [])
            else:
                self.assertTrue(is_told_apart(view, log))
                self.assertNotEqual(self.call(masked_twice, view=view, log=log), masked(view, log))
                self.assertLessEqual(log_key(log), min(map(log_key, apart), default=log_key(log)))


class ExampleTest(Checks):
    def test_example(self):
        self.check_example(EXAMPLE)

    def test_defined_here(self):
        self.check_defined(twice, ["masked_twice", "first_twice"])


class MaskedTest(TwiceChecks):
    def test_words_with_a_star_are_kept(self):
        view = (((), LETTERS, ("first", 1)), ((), EVERY, OUT))
        self.assertEqual(self.call(masked_twice, view=view, log=[["ab", "7"], []]), [["a*"], []])
        self.assertEqual(masked_twice((((), EVERY, STARS),), [["ab", "7"]]), [["**", "*"]])
        self.assertEqual(masked_twice((((), EVERY, ("put", "a*b")),), [["ab", "7"]]), [["a*b", "a*b"]])
        self.assertEqual(masked_twice((), [["ab", "7"], []]), [["ab", "7"], []])
        self.assertEqual(masked_twice((), []), [])

    def test_the_word_ahead_is_the_one_that_is_shown(self):
        view = ((("a",), LETTERS, ("put", "x")), (("x",), LETTERS, ("put", "y")), ((), DIGITS, OUT))
        self.assertEqual(masked(view, [["a", "b", "b"]]), [["a", "x", "b"]])
        self.assertEqual(masked_twice(view, [["a", "b", "b"]]), [["a", "x", "y"]])
        self.assertEqual(masked_twice(view, [["7", "a", "7", "7", "c"], ["7"]]), [["a", "x"], []])
        view = ((("",), LETTERS, ("first", 1)), (("a",), DIGITS, OUT), (("",), DIGITS, ("put", "a")))
        self.assertEqual(masked_twice(view, [["a", "7"], ["7", "7"], ["7", "a"]]), [["a*"], ["a*"], ["a*", "a"]])

    def test_put_texts_are_put_again(self):
        view = (((), (("text", "a"),), ("put", "b")), ((), (("text", "b"),), ("put", "a")))
        self.assertEqual(masked_twice(view, [["a", "b", "c"]]), [["a", "b", "c"]])

    def test_drawn(self):
        draw = drawn(1)
        texts = ["a", "b", "0", "-", "ab", "b0", "0a", "u-", "abc", "x"]
        for _ in range(300):
            view = drawn_view(draw)
            log = [[draw.choice(texts) for _ in range(draw.randint(0, 4))] for _ in range(draw.randint(0, 3))]
            self.assertEqual(self.call(masked_twice, view=view, log=log), plain_twice(view, log))

    def test_errors(self):
        for value in NO_LOGS:
            self.check_raised(BadLog, value, masked_twice, view=(), log=value)

    def test_what_is_returned_is_new(self):
        log = [["a"], []]
        for view in ((), (((), EVERY, ("keep",)),)):
            found = masked_twice(view, log)
            found[1].append("x")
            found.append(7)
            self.assertEqual(masked_twice(view, log), [["a"], []])
        view = (((), EVERY, ("put", "0")), ((), EVERY, OUT))[::-1]
        self.assertIsNone(first_twice(view))
        view = (((), text_shape("0"), OUT), ((), EVERY, ("put", "0")))
        for _ in range(2):
            log = first_twice(view)
            self.assertEqual(log, [["-"]])
            log[0].append("x")
            log.append([])


class FirstTest(TwiceChecks):
    def test_views_that_are_done_at_once(self):
        for view in ((), (((), EVERY, OUT),), (((), EVERY, STARS),), (((), EVERY, ("first", 1)),), (((), EVERY, ("put", "x")),),
                     (((), EVERY, ("keep",)), ((), DIGITS, OUT)), ((("a",), EVERY, STARS),), ((("",), EVERY, STARS),),
                     (((), LETTERS, ("put", "0")),), (((), LETTERS, ("put", "**")),)):
            self.check_first(view, None)

    def test_a_put_text_alone(self):
        self.check_first((((), DIGITS, ("put", "b")), ((), text_shape("b"), ("put", "c"))), [["0"]])
        self.check_first((((), DIGITS, ("put", "b")), ((), text_shape("b"), OUT)), [["0"]])
        self.check_first((((), DIGITS, ("put", "b")), ((), text_shape("b"), ("keep",)), ((), EVERY, OUT)), None)
        self.check_first((((), DIGITS, ("put", "b*")), ((), text_shape("b"), OUT)), None)
        self.check_first((((), (("digits", 3, 3),), ("put", "0")), ((), DIGITS, OUT)), [["000"]])
        self.check_first((((), LETTERS, ("put", "0")), ((), DIGITS, ("put", "a"))), [["0"]])

    def test_at_the_begin_of_a_line(self):
        self.check_first((((), DIGITS, OUT), (("",), LETTERS, STARS)), [["0", "a"]])
        self.check_first((((), (("digits", 2, None),), OUT), (("",), LETTERS, STARS)), [["00", "a"]])
        self.check_first(((("",), DIGITS, OUT), (("",), LETTERS, STARS)), [["0", "0"]])
        self.check_first(((("",), LETTERS, OUT),), [["a", "a"]])
        self.check_first(((("a", "b0"), DIGITS, OUT), (("",), LETTERS, STARS)), [["b0", "0", "0"]])
        self.check_first(((("a", "b0"), text_shape("7"), OUT), (("",), LETTERS, STARS)), [["b0", "7", "7"]])

    def test_put_texts_as_words_ahead(self):
        self.check_first(((("x",), LETTERS, OUT), ((), DIGITS, ("put", "x"))), [["0", "0"]])
        self.check_first(((("x",), LETTERS, OUT), (("y",), DIGITS, ("put", "x"))), [["x", "a", "a"]])
        self.check_first(((("x",), text_shape("a"), STARS), (("y",), DIGITS, ("put", "x"))), [["y", "0", "a"]])
        self.check_first(((("x",), text_shape("a"), STARS), (("y",), DIGITS, ("put", "x*"))), None)
        # Behind what is shown of a word that is named, its rule is not done again.
        view = ((("a",), EVERY, ("keep",)), ((), text_shape("a"), STARS), ((), (("digits", 1, 1),), ("put", "7")))
        self.check_first(view, [["a", "0"]])

    def test_several_words_left_out(self):
        letters = (("",), LETTERS, ("keep",))
        left_out = [((ahead,), text_shape(word), OUT) for ahead, word in (("a", "0"), ("0", "1"), ("1", "2"))]
        self.check_first((letters, *left_out, (("a",), text_shape("b"), STARS)), [["0", "1", "1"]])
        # Behind others than letters all is kept, so that it takes all words that are left out to come to b behind a.
        kept = (("", "0", "1", "2"), EVERY, ("keep",))
        self.check_first((*left_out[:1], kept, (("a",), text_shape("b"), STARS)), [["a", "0", "0"]])
        put = ((), (("digits", 1, None),), ("put", "*"))
        self.check_first((*left_out[:1], put, (("a",), text_shape("b"), STARS)), [["a", "0", "b"]])
        self.check_first((*left_out[:2], (("a",), text_shape("0"), ("keep",)), put, (("a",), text_shape("b"), STARS)), [["a", "0", "b"]])
        hidden = (("0",), text_shape("b"), STARS)
        self.check_first((*left_out[:2], hidden, put, (("a",), text_shape("b"), STARS)), [["a", "0", "1", "b"]])
        hidden = (("0", "1"), text_shape("b"), STARS)
        self.check_first((*left_out, hidden, put, (("a",), text_shape("b"), STARS)), [["a", "0", "1", "2", "b"]])
        self.check_first((*left_out[:2], hidden, put, (("a",), text_shape("b"), STARS)), None)

    def test_begin_of_a_line_behind_words_left_out(self):
        view = ((("",), text_shape("0"), OUT), (("0",), text_shape("1"), OUT), (("0",), EVERY, STARS), (("",), (("letters", 2, 2),), STARS))
        self.check_first(view, [["0", "1", "0"]])
        view = (*view[:3], (("1",), (("digits", 1, None),), STARS), view[3])
        self.check_first(view, [["0", "1", "aa"]])

    def test_least_of_characters_before_letters(self):
        # As many words, but fewer characters; and among these the least one.
        digits = ((), DIGITS, ("put", "*"))
        view = ((("bob", "x"), DIGITS, OUT), digits, (("bob",), LETTERS, STARS))
        self.check_first((*view, (("x",), (("letters", 4, None),), STARS)), [["bob", "0", "a"]])
        self.check_first((*view, (("x",), (("letters", 3, None),), STARS)), [["bob", "0", "a"]])
        self.check_first((*view, (("x",), (("letters", 2, None),), STARS)), [["x", "0", "aa"]])
        view = ((("a", "bb"), (("digits", 1, 1),), OUT), digits, (("bb",), LETTERS, STARS), (("a",), (("letters", 2, 3),), STARS))
        self.check_first(view, [["a", "0", "aa"]])

    def test_drawn_short_lines(self):
        draw = drawn(2)
        sizes = []
        for _ in range(120):
            view = drawn_view(draw)
            if draw.random() < 0.7:
                view = tuple((behind, draw.choice((shape, DIGITS, text_shape(draw.choice("ab0-")))), draw.choice((act, OUT, ("put", "a"))))
                             for behind, shape, act in view)
            words = sorted({*names_of(view), *"abc01-x", "aa", "0a", "00"}, key=lambda word: (len(word), word))
            lines = [*([word] for word in words_up_to(2)), *map(list, itertools.product(words, repeat=2))]
            lines += map(list, itertools.product(words[:12], repeat=3))
            log = first_twice(view)
            first = next(([line] for line in lines if is_told_apart(view, [line])), None)
            if log is None:
                self.assertIsNone(first)
                continue
            self.assertTrue(is_told_apart(view, log))
            sizes.append(len(log[0]))
            if first is not None:
                rest = [[line] for line in lines if len(line) == len(first[0]) and is_told_apart(view, [line])]
                self.assertLessEqual(log_key(log), min(map(log_key, rest)))
            if log[0] in lines:
                self.assertEqual(len(log[0]), len(first[0]))
        self.assertLessEqual({1, 2, 3}, set(sizes))

    def test_drawn_long_ways(self):
        # Each word is named, so that all lines of these words and one other stand for all lines.
        draw = drawn(3)
        sizes = []
        words = ["0", "1", "2", "a"]
        for _ in range(60):
            behinds = [tuple(sorted(draw.sample(["", *words], draw.choice((1, 1, 2))))) for _ in range(5)]
            acts = [draw.choice((OUT, OUT, ("keep",), ("put", "a"), ("put", "1"), STARS, ("put", "2"))) for _ in range(5)]
            view = tuple((behind, text_shape(draw.choice(words)), act) for behind, act in zip(behinds, acts))
            expected = None
            for many in range(1, 7):
                lines = itertools.product(["-", *words], repeat=many)
                expected = next(([list(line)] for line in lines if is_told_apart(view, [list(line)])), None)
                if expected or many == 5:
                    break
            found = first_twice(view)
            if expected is None:
                self.assertTrue(found is None or len(found[0]) > 5)
            else:
                self.assertEqual(found, expected)
                sizes.append(len(found[0]))
        self.assertGreater(max(sizes), 2)

    def test_drawn_acts(self):
        draw = drawn(4)
        for _ in range(200):
            view = tuple(((), drawn_shape(draw), drawn_act(draw)) for _ in range(draw.randint(1, 3)))
            log = first_twice(view)
            one = [[word] for word in words_up_to(2) if is_told_apart(view, [[word]])]
            if one:
                self.assertEqual(log, [one[0]])
            elif log is not None:
                # Behind any word the same is done, so one word tells all.
                self.assertEqual(len(log[0]), 1)
                self.assertGreater(len(log[0][0]), 2)
                self.assertTrue(is_told_apart(view, log))


if __name__ == "__main__":
    unittest.main()
