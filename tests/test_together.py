"""Promises 2 and 8: which readers know together among how few words a secret is hidden."""

import itertools
import unittest

from blackbars import together as module
from blackbars.cases import Case
from blackbars.errors import BadNumber
from blackbars.fewest import first_fewer
from blackbars.hidden import hidden
from blackbars.together import sets_below, together
from tests.helper import (
    EVERY, LETTERS, Checks, drawn, drawn_aheads, drawn_case, drawn_secret, plain_shown, secrets_up_to, short_secret,
)
from tests.test_cases import CASE
from tests.test_fewest import NO_NUMBERS, act_views

EXAMPLE = """
    >>> from blackbars.cases import Case
    >>> from blackbars.together import sets_below
    >>> letters = (('letters', 2, 2),)
    >>> views = [((('user-',), letters, ('first', 1)),), ((('user-',), letters, ('last', 1)),)]
    >>> case = Case(views, [(('user-',), letters)])
    >>> [sets_below(case, 26), sets_below(case, 27)]
    [[(0, 1)], [(0,), (1,)]]
"""
ALL_SETS = {many: [places for size in range(many + 1) for places in itertools.combinations(range(many), size)]
            for many in (1, 2, 3)}


class TogetherChecks(Checks):
    def check_sets(self, case, number, expected):
        self.assertEqual(self.call(sets_below, case=case, number=number), expected)
        rows = self.call(together, case=case, number=number)
        self.assertEqual(rows, [(places, *first_fewer(case, list(places), number)) for places in expected])
        for places, log, spot, many in rows:
            self.assertEqual(hidden(case, log, spot, places), many)
            self.assertLess(many, number)


class ExampleTest(Checks):
    def test_example(self):
        self.check_example(EXAMPLE)

    def test_defined_here(self):
        self.check_defined(module, ["sets_below", "together"])


class SetsTest(TogetherChecks):
    def test_what_each_one_shows(self):
        case = Case(act_views(("first", 1), ("last", 1), ("put", "x")), [(("u",), (("digits", 2, 2),))])
        self.check_sets(case, 1, [])
        self.check_sets(case, 2, [(0, 1)])
        self.check_sets(case, 10, [(0, 1)])
        self.check_sets(case, 11, [(0,), (1,)])
        self.check_sets(case, 100, [(0,), (1,)])
        self.check_sets(case, 101, [()])
        self.check_sets(case, 1000, [()])
        self.assertEqual(together(case, 2), [((0, 1), [["u", "00"]], (0, 1), 1)])
        self.assertEqual(together(case, 101), [((), [["u", "00"]], (0, 1), 100)])

    def test_all_three_together(self):
        digits = [(), (("digits", 1, 1),), (("digits", 2, 2),)]
        views = [((("u",), (*digits[at], ("text", "1"), *digits[2 - at]), ("put", "x")), ((), EVERY, ("put", "y")))
                 for at in range(3)]
        case = Case(views, [(("u",), (("digits", 3, 3),))])
        self.check_sets(case, 2, [(0, 1, 2)])
        self.check_sets(case, 10, [(0, 1, 2)])
        self.check_sets(case, 11, [(0, 1), (0, 2), (1, 2)])
        self.check_sets(case, 100, [(0, 1), (0, 2), (1, 2)])
        self.check_sets(case, 101, [(0,), (1,), (2,)])
        self.check_sets(case, 1000, [(0,), (1,), (2,)])

    def test_the_same_view_twice(self):
        for views, expected in (
            (act_views(("first", 1), ("first", 1)), [(0,), (1,)]),
            (act_views(("put", "x"), ("keep",), ("keep",)), [(1,), (2,)]),
            (act_views(("put", "x"), ("put", "x"), ("stars",)), [(2,)]),
            (act_views(("put", "x"), ("put", "x"), ("put", "x")), []),
        ):
            case = Case(views, [(("u",), (("digits", 1, 2),))])
            self.check_sets(case, 12, expected)
            self.check_sets(case, 111, [()])

    def test_no_view_is_needed(self):
        case = Case([(), ()], [(("u",), (("text", "bob"),)), (("v",), LETTERS)])
        self.check_sets(case, 1, [])
        self.check_sets(case, 2, [()])
        self.assertEqual(together(case, 2), [((), [["u", "bob"]], (0, 1), 1)])

    def test_endless_or_none(self):
        case = Case(act_views(("put", "x"), ("first", 1)), [(("u",), LETTERS)])
        self.check_sets(case, 1000, [])
        case = Case(act_views(("keep",)), [(("a",), (("text", "a"),))])
        self.check_sets(case, 1000, [])

    def test_numbers_just_there(self):
        for many, number in ((999, 999), (999, 1000), (1000, 1000)):
            secrets = [(("u",), (("digits", 3, 3),))] + ([(("777",), (("text", "u"),))] if many == 999 else [])
            case = Case(act_views(("put", "x")), secrets)
            self.check_sets(case, number, [()] if many < number else [])

    def test_the_word_behind(self):
        view = ((("u",), EVERY, ("put", "x")), (("7", "77"), LETTERS, ("put", "y")))
        case = Case([view, view[:1]], [(("u",), (("digits", 1, 2),))])
        self.check_sets(case, 3, [(0,)])
        self.assertEqual(together(case, 3), [((0,), [["u", "7", "a"]], (0, 1), 2)])
        self.check_sets(case, 110, [(0,)])
        self.check_sets(case, 111, [()])


class DrawnTest(TogetherChecks):
    def test_least_sets_of_all(self):
        draw = drawn(1)
        sizes = set()
        for _ in range(120):
            case = drawn_case(draw, draw.choice((drawn_secret, short_secret)))
            for number in (1, 2, 3, draw.randint(4, 40), 1000):
                below = [places for places in ALL_SETS[len(case.views)] if first_fewer(case, places, number)]
                expected = [places for places in below if not any(set(other) < set(places) for other in below)]
                self.check_sets(case, number, expected)
                sizes |= {len(places) for places in expected}
        self.assertLessEqual({0, 1}, sizes)

    def test_all_secrets_one_by_one(self):
        # No word behind a secret tells more here, as no rule names one.
        draw = drawn(2)
        for _ in range(60):
            acts = [draw.choice((("first", 1), ("last", 1), ("last", 2), ("stars",), ("put", "x"), ("put", "0*"))) for _ in range(3)]
            shape = draw.choice(((("digits", 1, 2),), (("digits", 2, 2),), (("text", "0"), ("digits", 0, 2)), (("digits", 1, 3),)))
            rule = ((), draw.choice((EVERY, (("text", "0"), ("any", 0, None)), (("digits", 2, 2),))), draw.choice(acts))
            case = Case([(rule, *view) for view in act_views(*acts)], [(("u", "v"), shape)])
            words = secrets_up_to(case, "u", 3)
            below = []
            number = draw.choice((2, 3, 5, 11, 12, 20, 112))
            for places in ALL_SETS[3]:
                looks = [str([plain_shown(case.views[place], "u", word) for place in places]) for word in words]
                if any(looks.count(look) < number for look in looks):
                    below.append(places)
            expected = [places for places in below if not any(set(other) < set(places) for other in below)]
            self.check_sets(case, number, expected)

    def test_more_is_seen_by_more(self):
        draw = drawn(3)
        for _ in range(40):
            case = drawn_case(draw)
            for number in (2, 30, 1000):
                for places, log, spot, many in together(case, number):
                    self.assertIn(spot, case.places(log))
                    self.assertTrue(any(ahead == (log[0][spot[1] - 1] if spot[1] else "") for ahead in drawn_aheads(case)))
                    for more in ALL_SETS[len(case.views)]:
                        if set(more) >= set(places):
                            self.assertLessEqual(hidden(case, log, spot, more), many)


class ErrorsTest(Checks):
    def test_the_very_number(self):
        for value in NO_NUMBERS:
            for function in (sets_below, together):
                self.check_raised(BadNumber, value, function, case=CASE, number=value)

    def test_what_is_returned_is_new(self):
        case = Case(act_views(("first", 1)), [(("u",), (("digits", 2, 2),))])
        for _ in range(2):
            rows, sets = together(case, 11), sets_below(case, 11)
            self.assertEqual((rows, sets), ([((0,), [["u", "00"]], (0, 1), 10)], [(0,)]))
            rows[0][1][0].append("x")
            rows[0][1].append([])
            rows.append(None)
            sets.append(None)


if __name__ == "__main__":
    unittest.main()
