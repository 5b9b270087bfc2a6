"""Promises 2, 8 and 9: how many looks secrets can have for one view, and how many of them few words have."""

import unittest

from blackbars import looks as looks_module
from blackbars.cases import Case
from blackbars.errors import BadNumber, BadPlace
from blackbars.hidden import secret_lot
from blackbars.looks import looks, looks_below
from blackbars.lots import view_lot
from tests.helper import (
    DIGITS, EVERY, LETTERS, Checks, drawn, drawn_aheads, drawn_case, plain_shown, secrets_up_to, short_secret,
)
from tests.test_cases import CASE, NO_PLACES
from tests.test_fewest import NO_NUMBERS, act_views, without

EXAMPLE = """
    >>> from blackbars.cases import Case
    >>> from blackbars.looks import looks, looks_below
    >>> letters = (('letters', 1, 3),)
    >>> case = Case([((('user-',), letters, ('stars',)),)], [(('user-',), letters)])
    >>> [looks(case, 'user-', 0), looks_below(case, 'user-', 0, 100), looks(case, 'bob', 0)]
    [3, 1, 0]
"""

OUT = ("out",)
ANY = ("any", 0, None)


class LooksChecks(Checks):
    def check_looks(self, case, ahead, place, many, rows):
        """Check how many looks there are, and for some numbers how many of them fewer words have."""
        self.assertEqual(self.call(looks, case=case, ahead=ahead, place=place), many)
        for number, below in rows:
            found = self.call(looks_below, case=case, ahead=ahead, place=place, number=number)
            self.assertEqual(found, below, (case.views, number))


class ExampleTest(Checks):
    def test_example(self):
        self.check_example(EXAMPLE)

    def test_defined_here(self):
        self.check_defined(looks_module, ["looks", "looks_below"])


class ActsTest(LooksChecks):
    def test_acts(self):
        secrets = [(("u",), (("digits", 1, 4),))]
        rows = [
            (("keep",), 11110, [(1, 0), (2, 11110), (1000, 11110)]), (("put", "x"), 1, [(1, 0), (1000, 0)]),
            (OUT, 1, [(1000, 0)]), (("stars",), 4, [(10, 0), (11, 1), (100, 1), (101, 2), (1000, 2)]),
            (("first", 1), 10, [(1000, 0)]), (("first", 2), 110, [(1, 0), (2, 10), (111, 10), (112, 110), (1000, 110)]),
            (("first", 3), 1110, [(2, 110), (11, 110), (12, 1110)]), (("last", 1), 10, [(1000, 0)]),
            (("last", 2), 110, [(2, 10), (111, 10), (112, 110)]), (("last", 3), 1110, [(2, 110), (11, 110), (12, 1110)]),
        ]
        for act, many, numbers in rows:
            self.check_looks(Case(act_views(act), secrets), "u", 0, many, numbers)
        case = Case(act_views(*[row[0] for row in rows[:3]]), secrets)
        for place, (_, many, numbers) in enumerate(rows[:3]):
            self.check_looks(case, "u", place, many, numbers)

    def test_endless(self):
        # The word u stands in the behind and is never secret.
        rows = [
            (("keep",), None, [(1, 0), (2, None), (1000, None)]), (("stars",), None, [(25, 0), (26, 1), (677, 2), (1000, 2)]),
            (("first", 1), 26, [(1000, 0)]), (("first", 3), 25 + 676 + 17576, [(1, 0), (2, 701), (1000, 701)]),
            (("last", 2), 25 + 676, [(1, 0), (2, 25), (1000, 25)]), (("put", "x"), 1, [(1000, 0)]), (OUT, 1, [(1000, 0)]),
        ]
        for act, many, numbers in rows:
            self.check_looks(Case(act_views(act), [(("u",), LETTERS)]), "u", 0, many, numbers)

    def test_words_behind_which_nothing_is_secret(self):
        case = Case(act_views(("keep",)), [(("a", "b"), (("text", "a"),)), (("c",), DIGITS)])
        for ahead in ("a", "b", "", "d", "zz", "7" * 200):
            self.check_looks(case, ahead, 0, 0, [(1, 0), (2, 0), (1000, 0)])
        self.check_looks(case, "c", 0, None, [(1, 0), (2, None)])

    def test_numbers_just_at_below_and_above(self):
        case = Case(act_views(("put", "x")), [(("u",), (("digits", 3, 3),))])
        self.check_looks(case, "u", 0, 1, [(999, 0), (1000, 0)])
        case = Case(act_views(("put", "x")), [(("777", "u"), (("digits", 3, 3),))])
        self.check_looks(case, "u", 0, 1, [(998, 0), (999, 0), (1000, 1)])

    def test_views_may_differ_behind_words(self):
        view = ((("u",), DIGITS, ("first", 1)), (("v",), DIGITS, ("stars",)))
        case = Case([view, ()], [(("", "u", "v", "w"), (("digits", 1, 2),))])
        answers = {("u", 0): 10, ("v", 0): 2, ("w", 0): 110, ("", 0): 110, ("u", 1): 110, ("v", 1): 110}
        for (ahead, place), many in answers.items():
            self.check_looks(case, ahead, place, many, [(2, 110 if many == 110 else 0), (11, {10: 0, 2: 1, 110: 110}[many])])

    def test_sizes_that_stay_the_same(self):
        secrets = [(("u",), (("any", 3, None),))]
        view = (without("letters"), without("digits"), ((), EVERY, ("stars",)))
        self.check_looks(Case([view], secrets), "u", 0, None, [(1, 0), (2, None), (1000, None)])
        view = (without("letters"), ((), (ANY, ("digits", 1, 1), ("any", 1, None)), ("put", "x")), ((), EVERY, ("stars",)))
        self.check_looks(Case([view], secrets), "u", 0, None, [(11, 0), (12, None), (1000, None)])
        view = (without("letters"), ((), (("any", 6, None),), ("put", "y")), ((), EVERY, ("stars",)))
        self.check_looks(Case([view], secrets), "u", 0, 5, [(1000, 0)])
        view = (without("letters"), ((), (ANY, ("digits", 1, 1), ("any", 1, None)), ("put", "***")), ((), EVERY, ("stars",)))
        # Three stars are shown of endlessly many words then.
        self.check_looks(Case([view], secrets), "u", 0, None, [(11, 0), (12, None)])
        view = (((), LETTERS, ("put", "****")), ((), DIGITS, ("stars",)), ((), EVERY, ("put", "x")))
        case = Case([view], [(("u",), (("digits", 1, 2),)), (("v",), LETTERS), (("u",), (("letters", 1, 1),))])
        self.check_looks(case, "u", 0, 3, [(10, 0), (11, 1), (24, 1), (25, 2), (100, 2), (101, 3)])

    def test_sizes_with_gaps(self):
        secrets = [(("u",), (("digits", 1, 1),)), (("u",), (("text", "-"), ("digits", 3, 3))), (("u",), (("text", "ab"),))]
        self.check_looks(Case(act_views(("stars",)), secrets), "u", 0, 3, [(1, 0), (2, 1), (10, 1), (11, 2), (1000, 2)])

    def test_texts_that_read_like_others(self):
        view = (((), (("text", "bob"),), ("put", "a*")), ((), (("letters", 1, 2),), ("first", 2)),
                ((), (("digits", 1, 3),), ("stars",)), ((), (("letters", 3, 3),), ("put", "**")))
        case = Case([view], [(("x",), (("letters", 1, 3),)), (("x",), (("digits", 1, 3),))])
        # a* is shown of a and bob; ** of two digits and of three letters; x itself is never secret.
        many = 25 + 676 + 3
        self.check_looks(case, "x", 0, many, [(2, 24 + 676), (3, 25 + 676), (10, 25 + 676), (11, 26 + 676), (1000, 26 + 676)])

    def test_one_text_by_several_rules(self):
        view = (((), (("digits", 1, 2),), ("first", 1)), ((), (("digits", 3, 3),), ("first", 2)), ((), DIGITS, ("put", "12*")))
        case = Case([view], [(("u",), (("digits", 1, 4),))])
        self.check_looks(case, "u", 0, 110, [(10, 0), (11, 99), (12, 109), (1000, 109)])
        view = (((), (("any", 1, 1),), ("first", 3)), ((), EVERY, ("first", 1)))
        case = Case([view], [(("u",), (("digits", 1, 2),))])
        self.check_looks(case, "u", 0, 10, [(11, 0), (12, 10)])


class AllWordsTest(LooksChecks):
    def test_short_secrets(self):
        draw = drawn(1)
        for _ in range(80):
            case = drawn_case(draw, short_secret)
            for ahead in drawn_aheads(case)[:2]:
                words = secrets_up_to(case, ahead, 3)
                for place, view in enumerate(case.views):
                    counts = {}
                    for word in words:
                        look = tuple(plain_shown(view, ahead, word))
                        counts[look] = counts.get(look, 0) + 1
                    sizes = list(counts.values())
                    numbers = {1, 2, 3, 11, 1000, *[size + more for size in sizes[:5] for more in (0, 1)]}
                    rows = [(number, len([size for size in sizes if size < number])) for number in numbers if number <= 1000]
                    self.check_looks(case, ahead, place, len(counts), rows)

    def test_endless_secrets(self):
        draw = drawn(2)
        exact = 0
        for _ in range(130):
            case = drawn_case(draw)
            ahead = draw.choice(drawn_aheads(case))
            lot = secret_lot(case, ahead)
            for place, view in enumerate(case.views):
                known = {tuple(plain_shown(view, ahead, word)) for word in lot.words(600)}
                many = looks(case, ahead, place)
                self.assertTrue(many is None or many >= len(known))
                if many == len(known) and many < 300:
                    exact += 1
                    sizes = [(view_lot(view, ahead, list(look)) & lot).count() for look in known]
                    for number in (1, 2, 3, 10, 11, 12, 27, 38, 1000):
                        expected = len([size for size in sizes if size is not None and size < number])
                        self.assertEqual(looks_below(case, ahead, place, number), expected, (view, case.secrets, number))
        self.assertGreater(exact, 40)


class ErrorsTest(Checks):
    def test_the_very_first_error(self):
        for value in NO_PLACES:
            self.check_raised(BadPlace, value, looks, case=CASE, ahead="user-", place=value)
            for number in (2, 0, None, "later"):
                self.check_raised(BadPlace, value, looks_below, case=CASE, ahead="user-", place=value, number=number)
        for value in NO_NUMBERS:
            self.check_raised(BadNumber, value, looks_below, case=CASE, ahead="user-", place=1, number=value)
            self.check_raised(BadNumber, value, looks_below, case=CASE, ahead="zz", place=0, number=value)


if __name__ == "__main__":
    unittest.main()
