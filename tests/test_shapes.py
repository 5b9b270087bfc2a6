"""Promises 2 and 4: runs, pieces, shapes, and which words fit."""

import itertools
import random
import re
import unittest

from blackbars.shapes import count_words, fits, is_run, is_shape, least_word
from tests.helper import CHARACTERS, SETS, Checks, any_values, nested, pattern, words_of

EXAMPLE = """
    >>> from blackbars.shapes import count_words, fits, least_word
    >>> shape = (('letters', 1, None), ('text', '-'), ('digits', 0, 2))
    >>> [fits(shape, 'ab-7'), fits(shape, 'ab7'), least_word(shape), count_words(shape, 3)]
    [True, False, 'a-', 936]
"""

RUNS = [
    ("letters", 0, None), ("letters", 1, None), ("letters", 2, 2), ("letters", 0, 1), ("digits", 0, 2),
    ("digits", 1, 1), ("digits", 1, None), ("any", 0, None), ("any", 1, 3), ("any", 0, 1), ("any", 2, 2),
    ("text", "a"), ("text", "-"), ("text", "0a"), ("text", "aa"),
]

SHAPES = [
    *itertools.product(RUNS),
    *itertools.product(RUNS, RUNS),
    *list(itertools.product(RUNS, RUNS, RUNS))[::7],
    *list(itertools.product(RUNS, RUNS, RUNS, RUNS))[::97],
]


def cut(shape, word):
    """Return whether a word can be cut into pieces that fit, trying all cuts."""
    if not shape:
        return word == ""
    run = shape[0]
    return any(piece_fits(run, word[:k]) and cut(shape[1:], word[k:]) for k in range(len(word) + 1))


def piece_fits(run, piece):
    if run[0] == "text":
        return piece == run[1]
    kind, low, high = run
    return low <= len(piece) and (high is None or len(piece) <= high) and all(
        re.fullmatch(SETS[kind], char) for char in piece)


def drawn_run(draw):
    kind = draw.choice(("letters", "digits", "any", "text"))
    if kind == "text":
        return kind, "".join(draw.choice("ab0-") for _ in range(draw.choice((1, 1, 2, 3, 6))))
    low = draw.choice((0, 0, 0, 1, 1, 2, 3, 6))
    return kind, low, draw.choice((None, *range(max(low, 1), 7)))


def drawn_shapes(seed, many):
    draw = random.Random(seed)
    return [tuple(drawn_run(draw) for _ in range(draw.randint(1, 4))) for _ in range(many)]


def turned(shape):
    return tuple(("text", run[1][::-1]) if run[0] == "text" else run for run in shape[::-1])


class ExampleTest(Checks):
    def test_example(self):
        self.check_example(EXAMPLE)


class RunTest(Checks):
    def test_bounds(self):
        for kind in ("letters", "digits", "any"):
            for low in range(-2, 9):
                self.check_judged(is_run, (kind, low, None), 0 <= low <= 6)
                for high in range(-2, 9):
                    self.check_judged(is_run, (kind, low, high), 0 <= low <= 6 and 1 <= high <= 6 and low <= high)

    def test_texts(self):
        for word in ("a", "-", "0", "user-", "abc-09", "zzzzzz"):
            self.check_judged(is_run, ("text", word), True)
        for value in ("", "abcdefg", "a" * 200, "A", "a*", "*", "a b", "a\n", None, 1, True, ["a"], ("a",), {}):
            self.check_judged(is_run, ("text", value), False)

    def test_bools_are_no_integers(self):
        wrong = [
            ("letters", True, 2), ("letters", False, 2), ("digits", 0, True), ("any", 1, True), ("any", True, True),
            ("any", False, None), ("any", True, None), ("any", False, False), ("any", 0, False),
        ]
        for value in wrong:
            self.check_judged(is_run, value, False)

    def test_wrong_forms(self):
        wrong = [
            ["letters", 1, 2], ["text", "a"], ("letters",), ("letters", 1), ("letters", 1, 2, 3), ("text",),
            ("text", "a", None), ("text", "a", "b"), ("text", 1, 2), ("letters", "a"), ("any", "1", 2),
            ("any", None, 2), ("any", None, None), ("any", 1, "2"), ("any", [1], 2), ("any", 1, (2,)), ("any", 1, {}),
            ("letter", 1, 2), ("Letters", 1, 2), ("", 1, 2), (None, 1, 2), (1, 1, 2), (["letters"], 1, 2),
            (("letters",), 1, 2), ("words", 0, 1), ("stars", 1, 2), ("any", 10 ** 59, None), ("any", 0, 10 ** 59),
            ("any", -(10 ** 59), 1), {"text": "a"}, "text", (("letters", 1, 2),), (("text", "a"), ("text", "a")),
            (True, "a"), (nested(99, list), "a"), (nested(99, tuple), 0, 1), ("any", nested(99, dict), None),
            ("any", 0, nested(99, list)), ("text", nested(99, tuple)),
        ]
        for value in wrong:
            self.check_judged(is_run, value, False)

    def test_any_values(self):
        for value in any_values():
            self.check_judged(is_run, value, False)


class ShapeTest(Checks):
    def test_one_to_four_runs(self):
        run = ("letters", 1, None)
        for many in range(8):
            self.check_judged(is_shape, (run,) * many, 1 <= many <= 4)

    def test_shapes(self):
        for shape in SHAPES[::50]:
            self.check_judged(is_shape, shape, True)
        self.check_judged(is_shape, (("text", "abcdef"), ("any", 0, 6), ("digits", 6, 6), ("any", 6, None)), True)

    def test_wrong_forms(self):
        run = ("letters", 1, None)
        wrong = [
            [], [run], [run, run], run, ("text", "a"), (list(run),), (run, list(run)), (run, ["text", "a"]),
            ((run,),), (run, (run,)), (run, None), (None, run), (run, ("any", 2, 1)), (run, ("any", 0, 0)),
            (("any", True, 2), run), (run, ("text", "")), (run, ("text", "abcdefg")), (run, run, run, ()),
            {run: run}, "letters", (run, run, run, run, run), (run, nested(99, tuple)),
        ]
        for value in wrong:
            self.check_judged(is_shape, value, False)

    def test_any_values(self):
        for value in any_values():
            self.check_judged(is_shape, value, False)


class FitsTest(Checks):
    def check(self, shape, words, others):
        for word in words + others:
            with self.subTest(shape=shape, word=word):
                self.assertIs(self.call(fits, shape=shape, word=word), word in words)

    def test_single_runs(self):
        self.check((("letters", 1, 3),), ["a", "az", "zzz"], ["abcd", "0", "-", "a0", "0a", "a-"])
        self.check((("digits", 2, 2),), ["00", "99"], ["0", "000", "a0", "0-"])
        self.check((("any", 0, 6),), ["-", "a0-", "abcdef", "------"], ["abcdefg"])
        self.check((("text", "abc-09"),), ["abc-09"], ["abc-0", "abc-099", "abc009", "a"])

    def test_low_and_high(self):
        for low, high in itertools.combinations_with_replacement(range(7), 2):
            if high:
                words = ["7" * size for size in range(max(low, 1), high + 1)]
                others = ["7" * size for size in range(1, 10) if not low <= size <= high]
                self.check((("digits", low, high),), words, others)
        for low in range(7):
            words = ["7" * size for size in (*range(max(low, 1), 10), 199, 200)]
            self.check((("digits", low, None),), words, ["7" * size for size in range(1, low)])

    def test_pieces_may_be_empty(self):
        shape = (("letters", 0, 2), ("text", "-"), ("digits", 0, None))
        self.check(shape, ["-", "a-", "ab-", "-7", "ab-123"], ["abc-", "7-", "--", "ab", "-a"])
        self.check((("any", 0, 1),) * 4, ["a", "a-", "a-0", "a-0z"], ["a-0zz"])

    def test_the_empty_string_is_no_word(self):
        self.assertIs(fits((("any", 0, None),), ""), False)

    def test_several_ways_to_cut(self):
        self.check((("any", 0, None), ("text", "ab"), ("any", 0, None)), ["ab", "aab", "abab", "xaby"], ["a", "ba", "a-b"])
        self.check((("letters", 1, None), ("letters", 2, 2), ("any", 0, 1)), ["abc", "abcd", "abc0"], ["ab", "ab0", "a0b"])
        self.check((("text", "aa"), ("any", 0, None), ("text", "aa")), ["aaaa", "aaaaa"], ["aa", "aaa"])
        self.check((("any", 0, None), ("text", "aab")), ["aab", "aaab", "aabaab"], ["aaba", "abb"])

    def test_long_words(self):
        shape = (("any", 0, None), ("letters", 6, 6), ("any", 0, None), ("digits", 6, 6))
        word = "a0" * 91 + "abcdef" + "-" * 6 + "0" * 6
        self.assertEqual(len(word), 200)
        self.check(shape, [word, "a" * 194 + "1" * 6], ["a0" * 100, "a" * 200])

    def test_against_all_cuts(self):
        words = [word for size in range(1, 6) for word in words_of(size, "a0-")]
        for shape in SHAPES[::13]:
            for word in words[::3]:
                self.assertIs(fits(shape, word), cut(shape, word), (shape, word))

    def test_all_short_words_against_all_cuts(self):
        words = [word for size in (1, 2) for word in words_of(size, CHARACTERS)]
        for shape in drawn_shapes(1, 60):
            found = [word for word in words if fits(shape, word)]
            self.assertEqual(found, [word for word in words if cut(shape, word)], shape)

    def test_drawn_words_against_all_cuts(self):
        draw = random.Random(2)
        for shape in drawn_shapes(3, 400):
            for size in (1, 2, 3, 4, 5, 6, 9, 14):
                word = "".join(draw.choice("ab0-z7") for _ in range(size))
                self.assertIs(fits(shape, word), cut(shape, word), (shape, word))

    def test_against_expressions(self):
        words = [word for size in range(1, 5) for word in words_of(size, "ab0-")]
        for shape in SHAPES[::3]:
            form = pattern(shape)
            for word in words:
                self.assertIs(fits(shape, word), form.fullmatch(word) is not None, (shape, word))


class LeastWordTest(Checks):
    def check(self, shape, word):
        with self.subTest(shape=shape):
            self.assertEqual(self.call(least_word, shape=shape), word)

    def test_single_runs(self):
        for kind, least in (("letters", "a"), ("digits", "0"), ("any", "-")):
            for low in range(7):
                for high in (None, 6):
                    self.check(((kind, low, high),), least * max(low, 1))
            self.check(((kind, 0, 1),), least)
        self.check((("text", "user-7"),), "user-7")

    def test_a_word_is_not_empty(self):
        self.check((("letters", 0, 1), ("digits", 0, None)), "0")
        self.check((("digits", 0, 2), ("letters", 0, 2)), "0")
        self.check((("letters", 0, 1), ("digits", 0, 1), ("any", 0, 1)), "-")
        self.check((("letters", 0, 1), ("letters", 0, 6)), "a")

    def test_shorter_words_come_first(self):
        self.check((("any", 0, None), ("text", "z")), "z")
        self.check((("text", "z"), ("any", 0, 3), ("letters", 2, None)), "zaa")
        self.check((("letters", 6, 6),) * 4, "a" * 24)

    def test_is_the_least_of_all_words(self):
        for shape in SHAPES[::11]:
            form = pattern(shape)
            sizes = (words_of(size, "-0a") for size in range(1, 9))
            words = (word for size in sizes for word in size if form.fullmatch(word))
            self.check(shape, next(words))


class CountWordsTest(Checks):
    def check(self, shape, size, many):
        with self.subTest(shape=shape, size=size):
            counted = self.call(count_words, shape=shape, size=size)
            self.assertIs(type(counted), int)
            self.assertEqual(counted, many)

    def test_single_runs(self):
        for kind, chars in (("letters", 26), ("digits", 10), ("any", 37)):
            for low in range(7):
                for size in (1, 2, 5, 6, 7, 200):
                    self.check(((kind, low, None),), size, chars ** size if size >= low else 0)
                    self.check(((kind, low, 6),), size, chars ** size if low <= size <= 6 else 0)
                if low:
                    self.check(((kind, low, low),), low, chars ** low)
                    self.check(((kind, low, low),), low + 1, 0)

    def test_texts(self):
        self.check((("text", "abc-09"),), 6, 1)
        self.check((("text", "abc-09"),), 5, 0)
        self.check((("text", "abc-09"),), 200, 0)
        self.check((("text", "a"),), 1, 1)
        self.check((("text", "ab"), ("any", 0, None)), 200, 37 ** 198)

    def test_sizes_that_no_word_has(self):
        self.check((("any", 0, None),), 0, 0)
        self.check((("any", 0, 6),) * 4, 24, 37 ** 24)
        self.check((("any", 0, 6),) * 4, 25, 0)
        self.check((("any", 6, 6),) * 4, 23, 0)

    def test_counted_once(self):
        self.check((("any", 0, None),) * 4, 200, 37 ** 200)
        self.check((("letters", 1, None),) * 4, 200, 26 ** 200)
        self.check((("letters", 0, 6), ("any", 0, 6)), 6, 37 ** 6)
        self.check((("text", "aa"), ("text", "a"), ("any", 0, 1)), 3, 1)
        self.check((("letters", 0, None), ("text", "a"), ("letters", 0, None)), 200, 26 ** 200 - 25 ** 200)
        self.check((("any", 0, None), ("digits", 1, 1), ("any", 0, None)), 200, 37 ** 200 - 27 ** 200)
        self.check((("letters", 0, None), ("any", 0, None), ("text", "a")), 1, 1)
        many = sum(26 ** letters * 11 * 37 ** (199 - letters) for letters in range(200))
        self.check((("letters", 0, None), ("any", 0, None)), 200, 26 ** 200 + many)

    def test_letters_before_digits(self):
        shape = (("letters", 0, None), ("digits", 0, None))
        for size in (1, 2, 100, 199, 200):
            self.check(shape, size, sum(26 ** k * 10 ** (size - k) for k in range(size + 1)))

    def test_many_ways_to_cut(self):
        # Read from the front these have thousands of ways to be cut so far, from the end few; and the reverse.
        first = (("any", 0, None), ("letters", 1, 1), ("any", 6, 6), ("any", 6, 6))
        for shape in (first, first[::-1]):
            self.check(shape, 200, 26 * 37 ** 199)
            self.check(shape, 13, 26 * 37 ** 12)
            self.check(shape, 12, 0)

    def test_against_cuts_followed_at_once(self):
        shapes = [
            (("digits", 6, None), ("any", 6, 6), ("text", "0"), ("any", 6, None)),
            (("letters", 6, None), ("any", 6, 6), ("text", "a"), ("any", 5, None)),
            (("letters", 2, 5), ("any", 0, None), ("text", "abaaba"), ("any", 1, 4)),
            (("any", 0, 6), ("text", "aa-aa-"), ("any", 0, None), ("text", "-")),
        ]
        for shape in shapes:
            for size in (6, 17, 40):
                self.check(shape, size, counted_by_rests(shape, size))

    def test_against_all_words(self):
        words = [word for size in range(1, 3) for word in words_of(size, CHARACTERS)]
        for shape in SHAPES[::3]:
            form = pattern(shape)
            counts = {1: 0, 2: 0}
            for word in words:
                counts[len(word)] += form.fullmatch(word) is not None
            self.assertEqual({size: count_words(shape, size) for size in counts}, counts, shape)

    def test_short_words_against_fits(self):
        words = {size: words_of(size, CHARACTERS) for size in (1, 2)}
        for shape in drawn_shapes(4, 100):
            for size in words:
                self.assertEqual(count_words(shape, size), sum(fits(shape, word) for word in words[size]), shape)

    def test_any_shape_at_size_200(self):
        # The longest words, for shapes with many ways to cut them both from the front and from the end.
        run, long = ("any", 0, None), ("any", 6, 6)
        self.check((run, ("text", "a"), long, long), 200, 37 ** 199)
        self.check((long, long, ("text", "a"), run), 200, 37 ** 199)
        self.check((run, ("text", "ab0"), long, long), 200, 37 ** 197)
        self.check((long, long, ("text", "ab0"), run), 200, 37 ** 197)
        self.check((run, ("text", "ab"), long, long), 14, 37 ** 12)
        self.check((("letters", 6, None), ("text", "aa"), ("letters", 6, 6), ("any", 0, 6)), 12, 0)
        for shape in drawn_shapes(5, 100):
            self.assertEqual(count_words(shape, 200), count_words(turned(shape), 200), shape)

    def test_against_all_words_of_three(self):
        words = words_of(3, CHARACTERS)
        for shape in SHAPES[::59]:
            form = pattern(shape)
            self.assertEqual(count_words(shape, 3), sum(form.fullmatch(word) is not None for word in words), shape)


def counted_by_rests(shape, size):
    """Count words by the sets of what of a shape may be left to come, run by run."""
    counts = {frozenset([shape]): 1}
    for _ in range(size):
        longer = {}
        for rests, many in counts.items():
            for char in CHARACTERS:
                key = frozenset(rest for one in rests for rest in rests_behind(one, char))
                longer[key] = longer.get(key, 0) + many
        counts = longer
    return sum(many for rests, many in counts.items() if any(cut(rest, "") for rest in rests))


def rests_behind(shape, char):
    """Return what of a shape may be left to come behind one character."""
    found = []
    for at, run in enumerate(shape):
        if run[0] == "text":
            if run[1][0] == char:
                found.append(((("text", run[1][1:]),) if run[1][1:] else ()) + shape[at + 1:])
            return found
        kind, low, high = run
        if high != 0 and re.fullmatch(SETS[kind], char):
            found.append(((kind, max(low - 1, 0), None if high is None else high - 1),) + shape[at + 1:])
        if low > 0:
            return found
    return found


if __name__ == "__main__":
    unittest.main()
