"""Promises 2 and 10: lots, how they are made and combined, and what they tell."""

import itertools
import time
import unittest

from blackbars import lots
from blackbars.lots import (
    Lot, act_lot, begin_lot, end_lot, every_lot, none_lot, shape_lot, size_lot, view_lot, word_lot,
)
from blackbars.machines import Machine
from blackbars.shapes import count_words
from tests.helper import (
    CHARACTERS, DIGITS, EVERY, LETTERS, Checks, any_values, drawn, drawn_act, drawn_shape, drawn_view, drawn_word,
    plain_act, plain_fits, plain_shown, words_up_to,
)

EXAMPLE = """
    >>> from blackbars.lots import begin_lot, shape_lot, word_lot
    >>> lot = shape_lot((('letters', 1, 3),)) & begin_lot('ab')
    >>> [lot.least(), lot.count(), 'abc' in lot, (lot - word_lot('ab')).count_of(3), lot.words(3)]
    ['ab', 27, True, 26, ['ab', 'aba', 'abb']]
"""

ANY = ("any", 0, None)
FUNCTIONS = [
    "shape_lot", "word_lot", "begin_lot", "end_lot", "size_lot", "every_lot", "none_lot", "act_lot", "view_lot",
]
METHODS = ["__and__", "__or__", "__sub__", "__eq__", "__contains__", "least", "count", "count_of", "words"]


def drawn_leaf(draw):
    """Return a drawn lot that is made at once, and a function that tells its words by a plain reading."""
    kind = draw.choice(("shape", "shape", "word", "begin", "end", "size", "every", "none"))
    word, size, shape = drawn_word(draw, 3), draw.randint(1, 4), drawn_shape(draw)
    return {
        "shape": lambda: (shape_lot(shape), lambda other: plain_fits(shape, other)),
        "word": lambda: (word_lot(word), lambda other: other == word),
        "begin": lambda: (begin_lot(word), lambda other: other.startswith(word)),
        "end": lambda: (end_lot(word), lambda other: other.endswith(word)),
        "size": lambda: (size_lot(size), lambda other: len(other) == size),
        "every": lambda: (every_lot(), lambda other: True),
        "none": lambda: (none_lot(), lambda other: False),
    }[kind]()


def drawn_lot(draw, depth):
    if depth == 0:
        return drawn_leaf(draw)
    first, first_has = drawn_lot(draw, depth - 1)
    second, second_has = drawn_lot(draw, draw.randint(0, depth - 1))
    return draw.choice((
        lambda: (first & second, lambda word: first_has(word) and second_has(word)),
        lambda: (first | second, lambda word: first_has(word) or second_has(word)),
        lambda: (first - second, lambda word: first_has(word) and not second_has(word)),
    ))()


class LotChecks(Checks):
    def check_words(self, lot, expected, size):
        """Check all that a lot tells of its words with at most so many characters, which are told in order."""
        sizes = [len(word) for word in expected]
        for k in range(1, size + 1):
            self.assertEqual(lot.count_of(k), sizes.count(k))
        found = lot.words(min(len(expected), 1000))
        self.assertEqual(found, list(expected[:1000]))
        if expected:
            self.assertEqual(lot.least(), expected[0])
        self.assertEqual([word for word in words_up_to(min(size, 2)) if word in lot],
                         [word for word in expected if len(word) <= 2])


class ExampleTest(Checks):
    def test_example(self):
        self.check_example(EXAMPLE)

    def test_defined_here(self):
        self.check_defined(lots, FUNCTIONS, [("Lot", METHODS)])


class MadeTest(LotChecks):
    def test_by_position_and_by_name(self):
        shape = (("letters", 1, 2), ("text", "-"))
        self.assertIsInstance(self.call(shape_lot, shape=shape), Lot)
        for function in (word_lot, begin_lot, end_lot):
            self.assertIsInstance(self.call(function, word="ab"), Lot)
        self.assertIsInstance(self.call(size_lot, size=3), Lot)
        self.assertIsInstance(self.call(act_lot, act=("first", 2), shown_words=["ab*"]), Lot)
        self.assertIsInstance(self.call(view_lot, view=(), ahead="", shown_words=["ab"]), Lot)

    def test_all_words_of_three(self):
        draw = drawn(1)
        for _ in range(4):
            lot, has_word = drawn_lot(draw, 2)
            expected = [word for word in words_up_to(3) if has_word(word)]
            self.check_words(lot, expected, 3)
            self.assertEqual([word for word in words_up_to(3) if word in lot], expected)

    def test_all_words_of_two(self):
        draw = drawn(2)
        for _ in range(150):
            lot, has_word = drawn_lot(draw, draw.choice((0, 1, 2, 3)))
            self.check_words(lot, [word for word in words_up_to(2) if has_word(word)], 2)
            for _ in range(60):
                word = drawn_word(draw, 8)
                self.assertIs(word in lot, has_word(word))

    def test_shapes(self):
        draw = drawn(3)
        for _ in range(60):
            shape = drawn_shape(draw)
            lot = shape_lot(shape)
            for size in (1, 2, 3, 7, 30, 200):
                self.assertEqual(lot.count_of(size), count_words(shape, size))

    def test_single_words(self):
        for word in ("a", "-", "aa", "ab-0", "0" * 200, "ab" * 100):
            lot = word_lot(word)
            self.assertEqual((lot.least(), lot.count(), lot.words(1000)), (word, 1, [word]))
            self.assertEqual([lot.count_of(len(word)), lot.count_of(199)], [1, 0])
            self.assertIn(word, lot)
            self.assertNotIn(word + "a", lot)
            self.assertNotIn(word[1:], lot)
            self.assertEqual(lot, begin_lot(word) & end_lot(word) & size_lot(len(word)))

    def test_begins_and_ends(self):
        for word in ("a", "aa", "aba", "aabaa", "abcab", "a-" * 100):
            begins, ends, size = begin_lot(word), end_lot(word), len(word)
            for lot in (begins, ends):
                self.assertEqual((lot.least(), lot.count()), (word, None))
                self.assertEqual(lot.count_of(size), 1)
                self.assertEqual(lot.count_of(size + 2), 37 ** 2)
            self.assertIn(word + "b", begins)
            self.assertIn("b" + word, ends)
            self.assertEqual(word + "b" in ends, False)
            self.assertEqual(word[:-1] in begins or word[1:] in ends, False)
        self.assertEqual((begin_lot("aba") & end_lot("ab")).words(3), ["abab", "abaab", "aba-ab"])
        self.assertEqual((begin_lot("ab") & end_lot("ba")).words(2), ["aba", "abba"])

    def test_sizes(self):
        for size in (1, 2, 7, 199, 200):
            lot = size_lot(size)
            self.assertEqual((lot.least(), lot.count()), ("-" * size, 37 ** size))
            many = [37 * (size == 1), 37 ** size, 37 ** 200 * (size == 200)]
            self.assertEqual([lot.count_of(k) for k in (1, size, 200)], many)
            self.assertEqual(lot.words(2), ["-" * size, "-" * (size - 1) + "0"])

    def test_every_and_none(self):
        every, none = every_lot(), none_lot()
        self.assertEqual((every.least(), every.count(), every.count_of(1), every.count_of(200)),
                         ("-", None, 37, 37 ** 200))
        self.assertEqual(every.words(38), [*CHARACTERS, "--"])
        self.assertEqual((none.least(), none.count(), none.count_of(1), none.count_of(200), none.words(1000)),
                         (None, 0, 0, 0, []))


class CombinedTest(LotChecks):
    def test_operands_stay_as_they_are(self):
        first, second = shape_lot(LETTERS), begin_lot("a")
        answers = [(lot.count(), lot.words(5), lot.count_of(2)) for lot in (first, second)]
        for made in (first & second, first | second, first - second):
            made.words(7).append("x")
            self.assertEqual([(lot.count(), lot.words(5), lot.count_of(2)) for lot in (first, second)], answers)

    def test_equal_whichever_way_they_were_made(self):
        draw = drawn(4)
        for _ in range(120):
            (first, _), (second, _), (third, _) = [drawn_lot(draw, draw.randint(0, 2)) for _ in range(3)]
            every = every_lot()
            same = [
                (first & second, second & first), (first | second, second | first), (first - second, first & (every - second)),
                (every - (first | second), (every - first) & (every - second)), (first - first, none_lot()),
                (first & (second | third), (first & second) | (first & third)), (first | none_lot(), first),
                (every - (every - first), first), ((first - second) | (first & second), first), (first & every, first),
                (first - none_lot(), first), (none_lot() - first, none_lot()), (first | first, first),
            ]
            for one, other in same:
                self.assertIs(one == other, True)
                self.assertIs(one != other, False)

    def test_unequal(self):
        draw = drawn(5)
        for _ in range(100):
            lot, has_word = drawn_lot(draw, 2)
            word = drawn_word(draw, 5)
            other = lot - word_lot(word) if has_word(word) else lot | word_lot(word)
            self.assertIs(lot == other, False)
            self.assertIs(other == lot, False)
            self.assertIs((other | word_lot(word)) == (lot | word_lot(word)), True)

    def test_equal_shapes(self):
        same = [
            ((("any", 0, None),), (("any", 1, None),)), ((("letters", 0, 6),), (("letters", 1, 6),)),
            ((("any", 2, None),), (("any", 1, None), ("any", 1, None))), ((("text", "ab"),), (("text", "a"), ("text", "b"))),
            ((("digits", 0, 3), ("digits", 0, 3)), (("digits", 0, 6),)),
            ((ANY, ("digits", 1, 1), ANY), (ANY, ("digits", 1, None), ANY)),
            ((ANY, ("letters", 1, 1), ("any", 6, 6), ("any", 6, None)), (ANY, ("letters", 1, 6), ("any", 6, 6), ("any", 6, None))),
        ]
        for first, second in same:
            self.assertIs(shape_lot(first) == shape_lot(second), True)
        letters, digits = shape_lot((ANY, ("letters", 1, 1), ANY)), shape_lot((ANY, ("digits", 1, 1), ANY))
        dashes = every_lot() - letters - digits
        self.assertEqual(dashes.words(3), ["-", "--", "---"])
        self.assertEqual([dashes.count(), dashes.count_of(200), dashes.words(1000)[-1]], [None, 1, "-" * 1000])
        self.assertEqual(shape_lot(LETTERS), every_lot() - digits - shape_lot((ANY, ("text", "-"), ANY)))

    def test_any_value(self):
        lot = word_lot("a")
        for value in [*any_values(), "a", ["a"], [lot], (lot,)]:
            self.assertIs(lot == value, False)
            self.assertIs(none_lot() == value, False)
            self.assertIs(lot != value, True)
        for value in any_values():
            self.assertIs(value in lot, False)
            self.assertIs(value in every_lot(), False)
        for value in ("a", "a*", "A", "a ", "", "b", "-" * 300):
            self.assertIs(value in lot, value == "a")
            self.assertIs(value in every_lot(), value in ("a", "b", "-" * 300))
            self.assertIs(value in none_lot(), False)


class TellingTest(LotChecks):
    def test_by_name(self):
        lot = shape_lot((("letters", 1, 3),))
        self.assertEqual(self.call(lot.count_of, size=2), 676)
        self.assertEqual(lot.words(2), ["a", "b"])
        self.assertEqual((lot.least(), lot.count()), ("a", 26 + 26 ** 2 + 26 ** 3))

    def test_words(self):
        lot = shape_lot((("digits", 1, 2),))
        expected = [word for word in words_up_to(2) if word.isdigit()]
        for most in (0, 1, 9, 10, 11, 109, 110, 111, 1000):
            self.assertEqual(lot.words(most), expected[:most])
        found = lot.words(3)
        found.append("x")
        self.assertEqual(lot.words(3), ["0", "1", "2"])
        self.assertEqual(every_lot().words(0), [])

    def test_order_of_words(self):
        lot = word_lot("b") | word_lot("aa") | word_lot("-z") | word_lot("0") | word_lot("a0-") | word_lot("-")
        self.assertEqual(lot.words(1000), ["-", "0", "b", "-z", "aa", "a0-"])

    def test_gaps_between_sizes(self):
        lot = size_lot(3) & shape_lot(DIGITS) | size_lot(150) & begin_lot("z" * 149) | word_lot("a" * 200)
        self.assertEqual(lot.count(), 1000 + 37 + 1)
        self.assertEqual(lot.words(1000)[-1], "999")
        rest = lot - size_lot(3)
        self.assertEqual(rest.words(1000), ["z" * 149 + char for char in CHARACTERS] + ["a" * 200])
        self.assertEqual([rest.count_of(150), rest.count_of(200), rest.count_of(151)], [37, 1, 0])

    def test_exact_numbers(self):
        lot = every_lot() - begin_lot("a") - end_lot("b")
        self.assertEqual(lot.count_of(200), 36 * 37 ** 198 * 36)
        self.assertEqual((lot & size_lot(200)).count(), 36 * 37 ** 198 * 36)
        lot = shape_lot((("any", 0, 6),) * 4)
        self.assertEqual(lot.count(), sum(37 ** size for size in range(1, 25)))
        lot = shape_lot((("letters", 0, None), ("digits", 0, None))) & (size_lot(199) | size_lot(200))
        self.assertEqual(lot.count(), sum(26 ** k * 10 ** (size - k) for size in (199, 200) for k in range(size + 1)))

    def test_endless_or_not(self):
        self.assertIsNone((every_lot() - size_lot(200)).count())
        self.assertEqual((begin_lot("a") & (size_lot(1) | size_lot(2))).count(), 38)
        self.assertIsNone((shape_lot(LETTERS) & begin_lot("a")).count())
        self.assertEqual((shape_lot(LETTERS) & begin_lot("0")).count(), 0)
        self.assertEqual((shape_lot(LETTERS) & shape_lot(DIGITS)).count(), 0)

    def test_large_machines(self):
        # 1024 sets of places, and 2048 states.
        shape = (ANY, ("text", "a"), ("any", 6, 6), ("any", 4, 4))
        lot = shape_lot(shape)
        self.assertEqual([lot.count_of(size) for size in (10, 11, 200)], [0, 37 ** 10, 37 ** 199])
        self.assertEqual((lot & size_lot(60)).count(), 37 ** 59)
        self.assertEqual(lot.words(2), ["a" + "-" * 10, "a" + "-" * 9 + "0"])
        self.assertEqual(lot - (lot & begin_lot("b")) | (begin_lot("b") & lot), lot)
        self.assertEqual((lot | end_lot("ab" * 90)).count_of(11), 37 ** 10)


class MadeAtOnceTest(LotChecks):
    """Lots of words, begins, ends and sizes are the lots of the shapes that say the same."""

    def runs(self, word):
        return tuple(("text", word[at:at + 6]) for at in range(0, len(word), 6))

    def test_words_and_their_shapes(self):
        draw = drawn(8)
        words = ["-", "--", "-a", "a-", "a", "aa", "aab", "aabaa", "-a-a-", "z", "zz-", "0", "abab", CHARACTERS[:18], CHARACTERS[18:], CHARACTERS[17::-1]]
        for word in [*words, *(drawn_word(draw, 6) for _ in range(60)), *(drawn_word(draw, 18, CHARACTERS) for _ in range(40))]:
            texts = self.runs(word)
            for lot, shape in ((word_lot(word), texts), (begin_lot(word), (*texts, ANY)), (end_lot(word), (ANY, *texts))):
                other = shape_lot(shape)
                self.assertIs(lot == other, True)
                self.assertIs(other == lot, True)
                self.assertEqual((lot.least(), lot.count(), lot.words(3)), (other.least(), other.count(), other.words(3)))
                for size in (len(word) - 1, len(word), len(word) + 1, len(word) + 9, 12, 13, 14, 60):
                    self.assertEqual(lot.count_of(size), other.count_of(size))
                self.assertEqual((lot - other).least(), None)
                self.assertEqual((other - lot).least(), None)
                self.assertIs(lot - word_lot(word + "a") == lot, word + "a" not in lot)

    def test_all_characters(self):
        for word in (CHARACTERS, CHARACTERS[::-1], CHARACTERS[1:] + "-", CHARACTERS[5:] + CHARACTERS[:6]):
            for lot in (word_lot(word), begin_lot(word), end_lot(word)):
                self.assertEqual((lot.least(), lot.words(1), lot.count_of(len(word))), (word, [word], 1))
            self.assertEqual(begin_lot(word) & end_lot(word) & size_lot(len(word)), word_lot(word))
            self.assertEqual(begin_lot(word) - begin_lot(word + "a") & size_lot(len(word)), word_lot(word))

    def test_sizes_and_their_shapes(self):
        for size in range(1, 25):
            runs = tuple(("any", many, many) for many in (6, 6, 6, 6, size % 6)[4 - size // 6:] if many)[:4]
            self.assertEqual(sum(run[1] for run in runs), size)
            self.assertIs(size_lot(size) == shape_lot(runs), True)
        self.assertIs(every_lot() == shape_lot((ANY,)), True)
        self.assertIs(none_lot() == every_lot() - every_lot(), True)
        self.assertEqual([size_lot(60).count_of(size) for size in (59, 60, 61)], [0, 37 ** 60, 0])

    def test_ends_that_overlap(self):
        for word in ("aa", "aaa", "abab", "aabaabaa", "abcabcabd", "ab" * 50, "aab" * 30 + "aa"):
            lot = end_lot(word)
            for begin in ("", "a", "b", "ab", "aab", word[:-1], word[:3], word):
                self.assertIn(begin + word, lot)
                self.assertEqual(begin + word[:-1] in lot, (begin + word[:-1]).endswith(word))
                self.assertEqual(begin + word + word[0] in lot, (begin + word + word[0]).endswith(word))
            self.assertEqual([lot.count_of(len(word) + more) for more in (-1, 0, 1, 3)], [0, 1, 37, 37 ** 3])
            self.assertEqual(lot.words(2), sorted(["-" + word, word], key=len))


class SizesOfLotsTest(LotChecks):
    """Lots of few and of many states are equal if their words are, whichever way they were made."""

    def test_states_around_forty(self):
        for size in range(33, 46):
            long = ("ab0" * 20)[:size]
            pieces = begin_lot(long) & end_lot(long) & size_lot(size)
            grown = (word_lot(long) | word_lot(long[:-1])) - word_lot(long[:-1])
            for lot in (pieces, grown, word_lot(long) | none_lot(), word_lot(long) - none_lot(), none_lot() | word_lot(long)):
                self.assertIs(lot == word_lot(long), True)
                self.assertIs(word_lot(long) == lot, True)
                self.assertIs(lot == word_lot(long[:-1] + "z"), False)
                self.assertIs(lot == size_lot(size), False)
                self.assertEqual((lot.words(2), lot.count(), lot.count_of(size), lot.least()), ([long], 1, 1, long))

    def test_many_small_lots_together(self):
        draw = drawn(9)
        words = sorted({drawn_word(draw, 5) for _ in range(120)}, key=lambda word: (len(word), word))
        whole, back, rest = none_lot(), none_lot(), every_lot()
        for word in words:
            whole, rest = whole | word_lot(word), rest - word_lot(word)
        for word in reversed(words):
            back = word_lot(word) | back
        self.assertIs(whole == back, True)
        self.assertIs(every_lot() - rest == whole, True)
        self.assertEqual((whole.words(1000), whole.count(), whole.least()), (words, len(words), words[0]))
        for word in words[::7]:
            whole = whole - word_lot(word)
            self.assertIs(whole == back, False)
        self.assertEqual(whole.count(), len(words) - len(words[::7]))

    def test_shapes_whose_states_multiply(self):
        lot, other = every_lot(), none_lot()
        for at in range(9):
            shape = (ANY, ("text", str(at)), ("any", at % 4, 6), ANY)
            lot, other = lot & shape_lot(shape), other | (every_lot() - shape_lot(shape))
        self.assertIs(lot == every_lot() - other, True)
        self.assertEqual(lot.least(), min(lot.words(1)))
        self.assertTrue(all(str(at) in lot.least() for at in range(9)))

    def test_states_that_multiply_where_they_are_compared(self):
        # All words, told by circles of states; what differs is found far off.
        def circle(many, unmarked=None):
            marks = [0] + [1] * many
            if unmarked is not None:
                marks[unmarked] = 0
            return Lot(Machine([0] * 37, [[at + 1] for at in range(many)] + [[1]], marks))

        self.assertIs(circle(30) == circle(31), True)
        self.assertIs(circle(30) == every_lot(), True)
        self.assertIs(circle(30) == circle(31, 31), False)
        self.assertIs(circle(30, 30) == circle(15, 15), False)
        self.assertIs((circle(30, 30) | circle(30, 15)) == every_lot(), True)
        self.assertIs((circle(30, 30) & circle(30, 15)) == circle(15, 15), True)

    def test_counts_around_twelve(self):
        lot = shape_lot((("letters", 0, None), ("digits", 0, None))) - begin_lot("a")
        for size in range(1, 16):
            every = sum(26 ** k * 10 ** (size - k) for k in range(size + 1))
            begun = sum(26 ** k * 10 ** (size - 1 - k) for k in range(size))
            self.assertEqual(lot.count_of(size), every - begun)

    def test_no_long_wait(self):
        # It took several times as long once. The least of many tries tells, whatever else the machine is doing.
        tries = []
        for _ in range(12):
            begun = time.perf_counter()
            for _ in range(10):
                self.ask_often("ab-0" * 20 + "a")
            tries.append(time.perf_counter() - begun)
        self.assertLess(min(tries), 0.04)

    def ask_often(self, long):
        word_lot(long).words(2)
        begin_lot(long).count_of(81)
        end_lot(long).count_of(82)
        begin_lot(long).least()
        size_lot(200)
        first = shape_lot((("letters", 1, 3), ("digits", 0, 2)))
        second = shape_lot((("any", 1, None), ("text", "ab"), ("digits", 1, 4)))
        ((first | second) - end_lot("ab-")).least()
        (first & second).count_of(4)


class ShowsTest(LotChecks):
    def test_acts(self):
        draw = drawn(6)
        for _ in range(150):
            act = drawn_act(draw)
            for text in ("x", "a", "ab", "*", "**", "a*", "*a", "ab*", "*b0", "abc*", "*abc", "abcd*", "a*b", "***", "*a*"):
                lot = act_lot(act, [text])
                for _ in range(20):
                    word = drawn_word(draw, 5)
                    self.assertIs(word in lot, plain_act(act, word) == [text], (act, text, word))

    def test_all_words_of_two(self):
        acts = [("keep",), ("put", "x"), ("put", "a*"), ("stars",), ("out",)]
        acts += [(kind, k) for kind in ("first", "last") for k in (1, 2, 3)]
        for act in acts:
            for told in ([], ["x"], ["a*"], ["*a"], ["*"], ["**"], ["ab*"], ["*ab"], ["abc*"], ["a*b"], ["ab"]):
                expected = [word for word in words_up_to(2) if plain_act(act, word) == told]
                lot = self.call(act_lot, act=act, shown_words=told)
                found = [word for word in words_up_to(2) if word in lot]
                self.assertEqual(found, expected, (act, told))
                self.assertEqual(lot.count_of(1) + lot.count_of(2), len(expected))

    def test_exact_lots_of_acts(self):
        self.assertEqual(act_lot(("first", 2), ["ab*"]), begin_lot("ab"))
        self.assertEqual(act_lot(("first", 2), ["a*"]), word_lot("a"))
        self.assertEqual(act_lot(("last", 3), ["*abc"]), end_lot("abc"))
        self.assertEqual(act_lot(("last", 3), ["*ab"]), word_lot("ab"))
        self.assertEqual(act_lot(("stars",), ["*" * 200]), size_lot(200))
        self.assertEqual(act_lot(("keep",), ["ab"]), word_lot("ab"))
        self.assertEqual(act_lot(("keep",), ["*"]), none_lot())
        self.assertEqual(act_lot(("put", "*"), ["*"]), every_lot())
        self.assertEqual(act_lot(("out",), []), every_lot())
        self.assertEqual(act_lot(("out",), ["a"]), none_lot())
        self.assertEqual(act_lot(("keep",), []), none_lot())
        self.assertEqual(act_lot(("first", 1), ["ab*"]), none_lot())

    def test_views(self):
        draw = drawn(7)
        for _ in range(60):
            view, ahead = drawn_view(draw), draw.choice(("", "a", "b", "0", "zz"))
            for told in ([], [draw.choice(("x", "a", "b", "ab", "*", "**", "a*", "*a", "ab*", "*b0", "a*b"))]):
                lot = self.call(view_lot, view=view, ahead=ahead, shown_words=told)
                expected = [word for word in words_up_to(2) if plain_shown(view, ahead, word) == told]
                self.check_words(lot, expected, 2)
                for _ in range(40):
                    word = drawn_word(draw, 7)
                    self.assertIs(word in lot, plain_shown(view, ahead, word) == told)

    def test_exact_lots_of_views(self):
        view = (((), LETTERS, ("first", 1)), (("b",), DIGITS, ("put", "a*")), ((), (("any", 3, 3),), ("out",)))
        letters, digits = shape_lot(LETTERS), shape_lot(DIGITS)
        self.assertEqual(view_lot(view, "", ["a*"]), letters & begin_lot("a"))
        self.assertEqual(view_lot(view, "b", ["a*"]), letters & begin_lot("a") | digits)
        self.assertEqual(view_lot(view, "", []), size_lot(3) - letters)
        self.assertEqual(view_lot(view, "b", []), size_lot(3) - letters - digits)
        self.assertEqual(view_lot(view, "b", ["a"]), none_lot())
        self.assertEqual(view_lot(view, "b", ["a-"]), word_lot("a-"))
        self.assertEqual(view_lot((), "", ["a-"]), word_lot("a-"))

    def test_lists_cover_all_words(self):
        view = (((), LETTERS, ("first", 1)), ((), DIGITS, ("out",)), ((), EVERY, ("put", "b*")))
        texts = [[char + "*"] for char in CHARACTERS[11:]] + [[]]
        parts = [view_lot(view, "", told) for told in texts]
        for first, second in itertools.combinations(parts[:5], 2):
            self.assertEqual(first & second, none_lot())
        whole = none_lot()
        for part in parts:
            whole = whole | part
        self.assertEqual(whole, every_lot())


if __name__ == "__main__":
    unittest.main()
