"""Promises 2, 3 and 8: where a secret is hidden among the fewest words."""

import unittest

from blackbars import fewest
from blackbars.cases import Case
from blackbars.errors import BadNumber, BadPlace
from blackbars.fewest import first_fewer, least_number
from blackbars.hidden import hidden, secret_lot
from blackbars.words import log_key, word_key
from tests.helper import (
    DIGITS, EVERY, LETTERS, Checks, any_values, drawn, drawn_aheads, drawn_case, drawn_places, log_with, plain_shown,
    secrets_up_to, short_secret, words_up_to,
)
from tests.test_cases import CASE, NO_PLACES

EXAMPLE = """
    >>> from blackbars.cases import Case
    >>> from blackbars.fewest import first_fewer, least_number
    >>> digits = (('digits', 2, 3),)
    >>> case = Case([((('id-',), digits, ('last', 2)),)], [(('id-',), digits)])
    >>> [first_fewer(case, [0], 12), first_fewer(case, [0], 11), least_number(case, [0])]
    [([['id-', '00']], (0, 1), 11), None, 11]
"""

OUT = ("out",)
ANY = ("any", 0, None)
NO_NUMBERS = [value for value in any_values() if value is not True and value != 1] + [
    True, False, 0, -1, 1001, "1", "12", [1], (1,), {1: 1}, 10 ** 59, -(10 ** 59),
]
FURTHERS = [word for word in words_up_to(2) if set(word) <= set("-0abu")]


def without(kind):
    """Return a rule that puts a text for each word that has a character of a kind, or a text, in it."""
    run = kind if isinstance(kind, tuple) else (kind, 1, 1)
    return (), (ANY, run, ANY), ("put", "x")


def act_views(*acts):
    return [(((), EVERY, act),) for act in acts]


class FewestChecks(Checks):
    def check_numbers(self, case, places, least, rows):
        """Check the least number, and for some numbers the least log, the number among how many it hides, or None."""
        self.assertEqual(self.call(least_number, case=case, places=places), least)
        for number, log, many in rows:
            found = self.call(first_fewer, case=case, places=places, number=number)
            if log is None:
                self.assertIsNone(found, number)
            else:
                self.assertEqual(found, (log, case.places(log)[0], many), number)
                self.assertEqual(hidden(case, log, found[1], places), many)


class ExampleTest(Checks):
    def test_example(self):
        self.check_example(EXAMPLE)

    def test_defined_here(self):
        self.check_defined(fewest, ["first_fewer", "least_number"])


class NumbersTest(FewestChecks):
    def test_single_acts(self):
        secrets = [(("u",), (("letters", 2, 3),))]
        every = 26 ** 2 + 26 ** 3
        rows = [
            (("keep",), 1), (("first", 1), 26 + 26 ** 2), (("first", 2), 27), (("first", 3), 1), (("last", 1), 26 + 26 ** 2),
            (("last", 2), 27), (("last", 3), 1), (("stars",), 26 ** 2),
        ]
        for act, least in rows:
            case = Case(act_views(act), secrets)
            log = [["u", "aa"]]
            self.check_numbers(case, [0], least, [(least, None, None), (least + 1, log, least), (1, None, None), (1000, log, least)])
        for act in (("put", "x"), OUT):
            self.check_numbers(Case(act_views(act), secrets), [0], None, [(1, None, None), (1000, None, None)])
        self.assertGreater(every, 999)

    def test_no_view_seen(self):
        case = Case(act_views(("keep",)), [(("u",), (("digits", 1, 2),)), (("v",), (("text", "0"), ("digits", 1, 1)))])
        self.check_numbers(case, [], 10, [(10, None, None), (11, [["v", "00"]], 10), (111, [["u", "0"]], 110)])
        self.check_numbers(case, [0, 0], 1, [(1, None, None), (2, [["u", "0"]], 1)])

    def test_limits_of_numbers(self):
        for many in (999, 1000, 1001):
            # 1000 words of three digits; one of them stands in a behind, or one more is there.
            secrets = [(("u",), (("digits", 3, 3),))]
            if many == 999:
                secrets.append((("777",), (("text", "u"),)))
            if many == 1001:
                secrets.append((("u",), (("text", "a"),)))
            case = Case(act_views(("put", "x")), secrets)
            least = 999 if many == 999 else None
            log = [["u", "000"]] if many == 999 else None
            self.check_numbers(case, [0], least, [(1000, log, 999), (999, None, None)])

    def test_endless(self):
        case = Case(act_views(("first", 1), ("stars",)), [(("u",), LETTERS)])
        self.check_numbers(case, [], None, [(1000, None, None)])
        self.check_numbers(case, [0], None, [(1000, None, None)])
        self.check_numbers(case, [1], 26 - 1, [(25, None, None), (26, [["u", "a"]], 25), (1000, [["u", "a"]], 25)])
        self.check_numbers(case, [0, 1], 1, [(2, [["u", "a"]], 1), (1, None, None)])

    def test_a_single_word_hidden_alone(self):
        case = Case(act_views(("put", "x")), [(("u",), (("text", "bob"),)), (("v",), LETTERS)])
        self.check_numbers(case, [0], 1, [(1, None, None), (2, [["u", "bob"]], 1)])
        self.check_numbers(case, [], 1, [(2, [["u", "bob"]], 1)])
        view = (((), (("text", "zz"),), ("put", "y")), ((), EVERY, ("put", "x")))
        case = Case([view], [(("v",), LETTERS)])
        self.check_numbers(case, [0], 1, [(2, [["v", "zz"]], 1), (1000, [["v", "zz"]], 1)])

    def test_secrets_without_a_word(self):
        case = Case([()], [(("a", "b"), (("text", "a"),))])
        self.check_numbers(case, [0], None, [(1, None, None), (2, None, None), (1000, None, None)])
        self.check_numbers(case, [], None, [(1000, None, None)])

    def test_overlapping_begins_and_ends(self):
        case = Case(act_views(("first", 1), ("last", 1)), [(("7",), (("letters", 1, 3),))])
        # Of words that begin and end alike, one has a single character.
        rows = [(27, None, None), (28, [["7", "ab"]], 27), (29, [["7", "a"]], 28), (1000, [["7", "a"]], 28)]
        self.check_numbers(case, [0, 1], 27, rows)
        case = Case(act_views(("first", 2), ("last", 2)), [(("7",), (("letters", 2, 4),))])
        rows = [(1, None, None), (2, [["7", "aaba"]], 1), (3, [["7", "ab"]], 2), (4, [["7", "aa"]], 3)]
        self.check_numbers(case, [1, 0], 1, rows)
        case = Case(act_views(("first", 3), ("last", 3)), [(("7",), (("letters", 3, 6),))])
        rows = [(2, [["7", "aaabaa"]], 1), (3, [["7", "aab"]], 2), (4, [["7", "aab"]], 2), (5, [["7", "aaa"]], 4)]
        self.check_numbers(case, [0, 1], 1, rows)
        case = Case(act_views(("first", 2), ("last", 2)), [(("7",), (("digits", 2, 2), ("any", 0, 1), ("text", "-")))])
        self.check_numbers(case, [0, 1], 1, [(2, [["7", "00--"]], 1), (1, None, None)])

    def test_begins_ends_and_sizes(self):
        case = Case(act_views(("first", 1), ("last", 1), ("stars",)), [(("7",), (("letters", 2, None),))])
        self.check_numbers(case, [0, 1, 2], 1, [(2, [["7", "aa"]], 1), (1000, [["7", "aa"]], 1)])
        case = Case(act_views(("first", 1), ("last", 1), ("stars",)), [(("7",), (("letters", 4, None),))])
        self.check_numbers(case, [0, 1, 2], 676, [(676, None, None), (677, [["7", "aaaa"]], 676)])
        self.check_numbers(case, [0, 1], None, [(1000, None, None)])

    def test_few_words_of_each_size(self):
        # Words of dashes alone; with one digit at the end; and of one digit alone, if two views are seen.
        secrets = [(("u",), (("any", 4, None),))]
        view = (without("letters"), without("digits"), ((), EVERY, ("stars",)))
        self.check_numbers(Case([view], secrets), [0], 1, [(1, None, None), (2, [["u", "----"]], 1)])
        view = (without("letters"), ((), (ANY, ("digits", 1, 1), ("any", 1, None)), ("put", "x")), ((), EVERY, ("stars",)))
        self.check_numbers(Case([view], secrets), [0], 11, [(11, None, None), (12, [["u", "----"]], 11)])
        texts = [without(("text", char)) for char in "012345678"]
        views = [(*texts[:5], ((), EVERY, ("put", "y"))), (*texts[5:], ((), EVERY, ("stars",)))]
        case = Case(views, [(("u",), (("digits", 3, None),))])
        self.check_numbers(case, [0], None, [(1000, None, None)])
        self.check_numbers(case, [1], 216, [(216, None, None), (217, [["u", "000"]], 216)])
        rows = [(1, None, None), (2, [["u", "999"]], 1), (215, [["u", "999"]], 1), (216, [["u", "000"]], 215)]
        self.check_numbers(case, [0, 1], 1, rows)

    def test_sizes_that_grow_slowly(self):
        # Dashes before zeros: one word more with each size.
        texts = [without(("text", char)) for char in "123456789"]
        other, stars = ((), EVERY, ("put", "y")), ((), EVERY, ("stars",))
        views = [(without("letters"), *texts[:4], other), (*texts[4:], other), (without(("text", "0-")), stars)]
        for size in (1, 3):
            case = Case(views, [(("u",), (("any", size, None),))])
            log = [["u", "-" * size]]
            rows = [(size + 1, None, None), (size + 2, log, size + 1), (1000, log, size + 1)]
            self.check_numbers(case, [0, 1, 2], size + 1, rows)

    def test_a_text_that_reads_like_another(self):
        view = (((), (("text", "bob"),), ("put", "a*")), ((), (("letters", 1, 2),), ("first", 2)), ((), EVERY, ("put", "a*")))
        case = Case([view], [(("u",), (("letters", 1, 3),))])
        many = 26 ** 3 + 1
        self.check_numbers(case, [0], 1, [(2, [["u", "b"]], 1), (1000, [["u", "b"]], 1)])
        self.assertEqual(hidden(case, [["u", "bob"]], (0, 1), [0]), many)


class FurtherTest(FewestChecks):
    def test_the_word_behind_alone(self):
        view = ((("u",), EVERY, ("put", "x")), (("bob",), DIGITS, ("put", "y")))
        case = Case([view], [(("u",), LETTERS)])
        self.check_numbers(case, [0], 1, [(1, None, None), (2, [["u", "bob", "0"]], 1), (1000, [["u", "bob", "0"]], 1)])
        self.check_numbers(case, [], None, [(1000, None, None)])
        view = ((("",), EVERY, ("put", "x")), (("bob",), DIGITS, ("put", "y")))
        case = Case([view], [(("",), (("letters", 3, 3),))])
        self.check_numbers(case, [0], 1, [(2, [["bob", "0"]], 1)])

    def test_the_others_become_fewer(self):
        view = ((("u",), EVERY, ("put", "x")), (("7", "77"), LETTERS, ("put", "y")))
        case = Case([view], [(("u",), (("digits", 1, 2),))])
        rows = [(2, None, None), (3, [["u", "7", "a"]], 2), (108, [["u", "7", "a"]], 2), (109, [["u", "0", "a"]], 108),
                (110, [["u", "0", "a"]], 108), (111, [["u", "0"]], 110), (1000, [["u", "0"]], 110)]
        self.check_numbers(case, [0], 2, rows)

    def test_a_named_word_may_be_the_least_of_the_others(self):
        view = ((("u",), EVERY, ("put", "x")), (("0", "1"), LETTERS, ("put", "y")), (("0",), DIGITS, ("stars",)))
        case = Case([view], [(("u",), (("digits", 1, 1),))])
        rows = [(2, [["u", "0", "0"]], 1), (3, [["u", "0", "0"]], 1), (9, [["u", "0", "0"]], 1), (11, [["u", "0"]], 10)]
        self.check_numbers(case, [0], 1, rows)
        view = ((("u",), EVERY, ("put", "x")), (("8",), DIGITS, ("put", "y")), (("0", "1"), LETTERS, ("put", "y")))
        case = Case([view], [(("u",), (("digits", 1, 1),))])
        rows = [(2, [["u", "8", "0"]], 1), (3, [["u", "0", "a"]], 2), (9, [["u", "0", "a"]], 2), (10, [["u", "0", "0"]], 9)]
        self.check_numbers(case, [0], 1, rows)

    def test_all_secrets_are_named(self):
        view = ((("u",), EVERY, ("put", "x")), (("a",), LETTERS, ("put", "z")), (("b",), DIGITS, ("put", "y")))
        case = Case([view], [(("u",), (("text", "a"),)), (("u",), (("text", "b"),))])
        self.check_numbers(case, [0], 1, [(2, [["u", "a", "0"]], 1), (3, [["u", "a"]], 2)])
        case = Case([view], [(("u",), (("text", "b"),)), (("u",), (("text", "c"),))])
        self.check_numbers(case, [0], 1, [(2, [["u", "b", "0"]], 1), (3, [["u", "b"]], 2)])

    def test_a_name_in_a_behind_of_a_secret(self):
        view = (((), LETTERS, ("put", "x")), (("bob",), DIGITS, ("put", "y")))
        case = Case([view], [(("bob", "u"), LETTERS)])
        self.check_numbers(case, [0], None, [(1000, None, None)])

    def test_texts_alike_behind_the_secret(self):
        # Behind bob, 7 is shown by put as it is elsewhere by keep; other digits tell.
        view = ((("u",), EVERY, ("put", "x")), (("bob",), DIGITS, ("put", "0")))
        case = Case([view], [(("u",), LETTERS)])
        self.check_numbers(case, [0], 1, [(2, [["u", "bob", "1"]], 1)])

    def test_left_out_before_a_further_word(self):
        view = ((("u",), EVERY, OUT), (("bob",), EVERY, ("stars",)))
        case = Case([view, ()], [(("u",), LETTERS)])
        self.check_numbers(case, [0], 1, [(2, [["u", "bob", "-"]], 1)])
        self.check_numbers(case, [1], 1, [(2, [["u", "a"]], 1)])


class AllWordsTest(FewestChecks):
    def setUp(self):
        self.known = {}

    def groups(self, case, ahead, places, further):
        """Return the lists of the secrets with at most three characters that are hidden together."""
        views, found = [case.views[place] for place in places], {}
        if (case, ahead) not in self.known:
            self.known[(case, ahead)] = secrets_up_to(case, ahead, 3)
        for word in self.known[(case, ahead)]:
            look = [plain_shown(view, ahead, word) for view in views]
            if further is not None:
                look.append([plain_shown(view, word, further) for view in views])
            found.setdefault(str(look), []).append(word)
        return list(found.values())

    def rows(self, case, places):
        """Return the tuples (key, log, spot, many) for the least word of all that are hidden together, by a plain reading."""
        names = {name for view in case.views for rule in view for name in rule[0] if name}
        rows = []
        for ahead in drawn_aheads(case):
            named = names.intersection(secrets_up_to(case, ahead, 3))
            for further in [None, *(FURTHERS if named else [])]:
                if further is not None and all(
                        plain_shown(case.views[place], name, further) == plain_shown(case.views[place], "zzz9", further)
                        for place in places for name in named):
                    continue
                for words in self.groups(case, ahead, places, further):
                    log, spot = log_with(ahead, words[0], further)
                    rows.append((log_key(log), log, spot, len(words)))
        return sorted(rows)

    def test_short_secrets(self):
        draw = drawn(1)
        sizes = []
        for _ in range(40):
            case = drawn_case(draw, short_secret)
            places = drawn_places(draw, case)
            rows = self.rows(case, places)
            least = min([row[3] for row in rows if row[3] < 1000], default=None)
            # The word behind a secret that tells most may be longer than those that are tried here.
            found = least_number(case, places)
            if found != least:
                self.assertGreater(len(first_fewer(case, places, found + 1)[0][0][-1]), 2)
                continue
            numbers = {1, 2, 3, 1000, *[row[3] + more for row in rows[:400] for more in (0, 1)]}
            for number in sorted(number for number in numbers if number <= 1000)[:25]:
                expected = next((row[1:] for row in rows if row[3] < number), None)
                found = first_fewer(case, places, number)
                if found != expected:
                    self.assertGreater(len(found[0][0][-1]), 2)
                    self.assertLess(log_key(found[0]), log_key(expected[0]))
                sizes.append(0 if found is None else len(found[0][0]))
        for many in (0, 1, 2):
            self.assertIn(many, sizes)

    def test_two_ends(self):
        draw = drawn(2)
        shapes = [
            (("digits", 1, 3),), (("digits", 2, 3),), (("text", "0"), ("digits", 0, 2)), (("digits", 0, 1), ("text", "-"), ("digits", 0, 1)),
            (("any", 1, 2), ("text", "a")), (("any", 2, 2),), (("any", 1, 1), ("text", "00")),
        ]
        for _ in range(60):
            views = act_views(("first", draw.randint(1, 3)), ("last", draw.randint(1, 3)), ("stars",))
            odd = (((), draw.choice(((ANY, ("text", "0"), ("any", 1, None)), (("text", "00"), ANY), (("any", 2, 2),))), draw.choice(
                (("put", "0*"), ("put", "*0"), ("first", 1), ("last", 1), ("stars",)))),)
            views = [odd + views[0], views[1], odd + views[2]][:draw.choice((2, 2, 3))]
            case = Case(views, [(("u",), draw.choice(shapes))])
            places = list(range(len(views)))
            groups = self.groups(case, "u", places, None)
            sizes = sorted({len(words) for words in groups})
            self.assertEqual(least_number(case, places), sizes[0])
            for number in {1, 2, 3, 4, 11, 12, 1000, *[size + more for size in sizes for more in (0, 1)]}:
                few = [words for words in groups if len(words) < number]
                expected = min(few, key=lambda words: word_key(words[0]), default=None)
                found = first_fewer(case, places, number)
                self.assertEqual(found, expected and ([["u", expected[0]]], (0, 1), len(expected)), (views, number))

    def test_endless_secrets(self):
        draw = drawn(3)
        for _ in range(60):
            case = drawn_case(draw)
            places = drawn_places(draw, case)
            numbers = {number: first_fewer(case, places, number) for number in (1, 2, 11, 100, 1000)}
            least = least_number(case, places)
            self.assertEqual(least is None, numbers[1000] is None)
            if least is not None:
                self.assertIsNone(first_fewer(case, places, least))
                self.assertEqual(first_fewer(case, places, least + 1)[2], least)
            for ahead in drawn_aheads(case):
                for word in secret_lot(case, ahead).words(60):
                    log, spot = log_with(ahead, word)
                    many = hidden(case, log, spot, places)
                    for number, found in numbers.items():
                        if many is not None and many < number:
                            self.assertLessEqual(log_key(found[0]), log_key(log))
            for number, found in numbers.items():
                if found is not None:
                    self.assertEqual(hidden(case, found[0], found[1], places), found[2])
                    self.assertLess(found[2], number)


class ErrorsTest(Checks):
    def test_the_very_number_comes_first(self):
        for value in NO_NUMBERS:
            for places in ([0], [], [2, None], ["later"]):
                self.check_raised(BadNumber, value, first_fewer, case=CASE, places=places, number=value)

    def test_the_very_place(self):
        for value in NO_PLACES:
            for places in ([value], [0, 1, value, "later"], (value, None)):
                self.check_raised(BadPlace, value, first_fewer, case=CASE, places=places, number=2)
                self.check_raised(BadPlace, value, least_number, case=CASE, places=places)

    def test_what_is_returned_is_new(self):
        case = Case(act_views(("first", 1)), [(("u",), (("digits", 2, 2),))])
        log = first_fewer(case, [0], 11)[0]
        log[0].append("x")
        log.append([])
        self.assertEqual(first_fewer(case, [0], 11), ([["u", "00"]], (0, 1), 10))


if __name__ == "__main__":
    unittest.main()
