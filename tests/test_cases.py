"""Promises 2, 7, 8 and 9: secrets, cases, what goes together, logs that are alike but for secrets, and looks."""

import unittest

from blackbars import cases
from blackbars.cases import Case, is_secret_told
from blackbars.errors import BadCase, BadLog, BadPlace, BadSecret, BadView
from tests.helper import (
    DIGITS, EVERY, LETTERS, Checks, any_values, drawn, drawn_aheads, drawn_case, drawn_log, drawn_places,
    drawn_secret, drawn_view, nested, plain_is_secret, plain_masked, plain_shown, plain_together, words_up_to,
)

EXAMPLE = """
    >>> from blackbars.cases import Case
    >>> letters = (('letters', 1, None),)
    >>> case = Case([((('user-',), letters, ('first', 1)),)], [(('user-',), letters)])
    >>> log = [['user-', 'bob', 'ran'], ['bob']]
    >>> case.places(log)
    [(0, 1)]
    >>> case.are_alike(log, [['user-', 'al', 'ran'], ['bob']])
    True
    >>> [case.look(log, (0, 1), 0), case.look_same(log, [['user-', 'ben', 'ran'], ['bob']], [0])]
    [['b*', 'ran'], True]
"""

KEEP = ("keep",)
OUT = ("out",)
VIEW = ((("user-",), LETTERS, ("first", 1)),)
SECRET = (("user-",), LETTERS)
CASE = Case([VIEW, ()], [SECRET, (("", "id-"), DIGITS)])
LOG = [["user-", "bob", "ran"], [], ["7", "id-", "8", "9", "user-", "user-"]]
NO_LOGS = [
    (), ((),), [()], [("a",)], ["a"], "a", [["a"], ("b",)], [["a", ""]], [["A"]], [["a*"]], [[None]], None, 1, True,
    {}, nested(100, list), nested(100, tuple), nested(100, dict),
]
NO_SPOTS = [
    (0, 0), (0, 2), (0, 3), (0, -1), (0, -2), (-1, 1), (-3, 1), (1, 0), (3, 0), (2, 1), (2, 3), (2, 4), (2, 6),
    (False, True), (0, True), (False, 1), (0, 1.0), [0, 1], (0,), (0, 1, 2), (), 0, 1, None, True, "01", ("0", "1"),
    ((0, 1),), (0, (1,)), (0, [1]), ([0], 1), (None, 1), (0, None), ({}, 1), {0: 1}, (10 ** 59, 1), (0, 10 ** 59),
    (0, -(10 ** 59)), (nested(99, list), 1), (0, nested(99, dict)), nested(100, tuple),
]
NO_PLACES = [
    2, 3, -1, -2, True, False, None, "0", "", [0], (0,), {}, {0: 1}, 10 ** 59, -(10 ** 59), nested(100, list),
    nested(100, tuple), nested(100, dict),
]


class ExampleTest(Checks):
    def test_example(self):
        self.check_example(EXAMPLE)

    def test_defined_here(self):
        methods = ["views", "secrets", "is_secret", "places", "are_alike", "look_same", "look"]
        self.check_defined(cases, ["is_secret_told"], [("Case", methods)])


class SecretTest(Checks):
    def test_secrets(self):
        draw = drawn(1)
        right = [SECRET, (("",), EVERY), (("", "-", "0", "a"), DIGITS), (("a" * 12,), (("text", "abcdef"),) * 4)]
        for secret in [*right, *[drawn_secret(draw) for _ in range(50)]]:
            self.check_judged(is_secret_told, secret, True)

    def test_no_secrets(self):
        wrong = [
            ((), LETTERS), [("a",), LETTERS], (["a"], LETTERS), (("a",), list(LETTERS)), (("a",), LETTERS[0]),
            (("b", "a"), LETTERS), (("a", "a"), LETTERS), (("a", "b", "c", "d", "e"), LETTERS), (("a" * 13,), LETTERS),
            (("A",), LETTERS), ((None,), LETTERS), ("a", LETTERS), (None, LETTERS), (("a",),), (LETTERS, ("a",)),
            (("a",), LETTERS, KEEP), (("a",), ()), (("a",), LETTERS * 5), (("a",), (("letters", True, 2),)),
            (("a",), None), (("a",), "letters"), SECRET[:1], (SECRET,), {}, ([], LETTERS), ("", LETTERS), ({}, LETTERS),
            (nested(99, tuple), LETTERS), (("a",), nested(99, tuple)), (("a",), nested(99, list)),
        ]
        for value in [*wrong, *any_values()]:
            self.check_judged(is_secret_told, value, False)


class MadeTest(Checks):
    def test_views_and_secrets(self):
        for views in ([VIEW], (VIEW,), [(), VIEW, ()], (VIEW, VIEW, VIEW)):
            for secrets in ([SECRET], (SECRET,), [SECRET, SECRET], (SECRET, (("a",), DIGITS), SECRET)):
                made = self.call_made(views, secrets)
                self.assertEqual((made.views, made.secrets), (tuple(views), tuple(secrets)))
                self.assertIs(type(made.views), tuple)
                self.assertIs(type(made.secrets), tuple)

    def call_made(self, views, secrets):
        before = repr((views, secrets))
        made = Case(secrets=secrets, views=views)
        self.assertEqual(made.views, Case(views, secrets).views)
        self.assertEqual(repr((views, secrets)), before)
        return made

    def test_what_was_passed_in_may_be_changed(self):
        views, secrets = [VIEW], [SECRET]
        made = Case(views, secrets)
        views[0] = ()
        views.append(VIEW)
        secrets.clear()
        self.assertEqual((made.views, made.secrets), ((VIEW,), (SECRET,)))
        self.assertEqual(made.places(LOG), [(0, 1)])
        self.assertEqual(made.look(LOG, (0, 1), 0), ["b*", "ran"])

    def test_first_wrong_one(self):
        for value in any_values():
            if value != () or not isinstance(value, tuple):
                for views in ([value], (VIEW, value), [VIEW, VIEW, VIEW, value, None], [(), value, "later"]):
                    self.check_raised(BadView, value, Case, views=views, secrets=[SECRET])
                    self.check_raised(BadView, value, Case, views=views, secrets=["wrong", None])
                    self.check_raised(BadView, value, Case, views=views, secrets=[])
            for secrets in ([value], (SECRET, value), [SECRET] * 4 + [value, None]):
                self.check_raised(BadSecret, value, Case, views=[VIEW], secrets=secrets)
                self.check_raised(BadSecret, value, Case, views=[], secrets=secrets)
        found = list(VIEW)
        self.check_raised(BadView, found, Case, views=[VIEW, found], secrets=[SECRET])
        found = list(SECRET)
        self.check_raised(BadSecret, found, Case, views=[VIEW], secrets=[SECRET, found])

    def check_bad_case(self, views, secrets):
        for call in (lambda: Case(views, secrets), lambda: Case(views=views, secrets=secrets)):
            with self.assertRaises(BadCase) as caught:
                call()
            self.assertEqual(caught.exception.value, (tuple(views), tuple(secrets)))
            self.assertEqual([type(part) for part in caught.exception.value], [tuple, tuple])

    def test_too_few_or_too_many(self):
        for many_views in range(6):
            for many_secrets in range(6):
                if not (1 <= many_views <= 3 and 1 <= many_secrets <= 3):
                    self.check_bad_case([VIEW] * many_views, (SECRET,) * many_secrets)
                    self.check_bad_case((VIEW,) * many_views, [SECRET] * many_secrets)

    def test_go_together(self):
        secrets = [(("user-",), LETTERS), (("id-",), (("digits", 2, 3),))]
        right = [
            ((("user-",), LETTERS, OUT),), (((), EVERY, OUT),), ((("user-", "x-"), EVERY, OUT), (("bob",), EVERY, KEEP)),
            ((("7",), EVERY, OUT),), ((("b0",), EVERY, KEEP), (("1234",), EVERY, OUT)), ((("",), EVERY, OUT),),
            ((("bob",), EVERY, KEEP), (("bob",), EVERY, ("stars",))), ((("", "id-"), EVERY, OUT),), (),
        ]
        wrong = [
            ((("bob",), EVERY, OUT),), ((("77",), EVERY, OUT),), ((("bob", "user-"), EVERY, OUT),),
            ((("bob",), DIGITS, KEEP), ((), EVERY, OUT)), ((("-", "777"), DIGITS, KEEP), (("x-",), EVERY, OUT)),
            ((("bob",), EVERY, ("put", "x")), ((), EVERY, KEEP), (("user-",), EVERY, OUT)),
            ((("x-",), EVERY, OUT), (("bob",), EVERY, KEEP), (("x-",), EVERY, OUT)),
        ]
        for view in right:
            Case([view], secrets)
            Case([(), view, VIEW], secrets)
        for view in wrong:
            self.check_bad_case([view], secrets)
            self.check_bad_case(((), VIEW, view), secrets)

    def test_a_word_in_a_behind_of_a_secret_may_not_be_one(self):
        view = ((("bob",), EVERY, OUT),)
        self.check_bad_case([view], [(("user-",), LETTERS)])
        Case([view], [(("bob", "user-"), LETTERS)])
        Case([view], [(("user-",), LETTERS), (("bob",), DIGITS)])

    def test_drawn(self):
        draw = drawn(2)
        answers = []
        for _ in range(400):
            views = [drawn_view(draw) for _ in range(draw.randint(1, 3))]
            secrets = [drawn_secret(draw) for _ in range(draw.randint(1, 3))]
            answers.append(plain_together(views, secrets))
            if answers[-1]:
                self.call_made(views, secrets)
            else:
                self.check_bad_case(views, secrets)
        self.assertGreater(answers.count(False), 30)
        self.assertGreater(answers.count(True), 30)


class SecretsOfLogsTest(Checks):
    def test_behinds(self):
        made = Case([()], [(("", "b"), (("letters", 1, 2),)), (("b",), DIGITS), (("x",), (("any", 3, 3),))])
        right = [("", "a"), ("", "zz"), ("b", "a"), ("b", "1234"), ("x", "a-0")]
        wrong = [("", "abc"), ("", "1"), ("a", "a"), ("x", "a"), ("b", "abc"), ("", "b"), ("b", "x"), ("b", "b")]
        for ahead, word in right + wrong:
            self.assertIs(self.call(made.is_secret, ahead=ahead, word=word), (ahead, word) in right)

    def test_places(self):
        self.assertEqual(self.call(CASE.places, log=LOG), [(0, 1), (2, 0), (2, 2)])
        self.assertEqual(CASE.places([]), [])
        self.assertEqual(CASE.places([[], [], ["bob", "user-"]]), [])
        found = CASE.places(LOG)
        found.append(1)
        self.assertEqual(CASE.places(LOG), [(0, 1), (2, 0), (2, 2)])

    def test_no_logs(self):
        for value in NO_LOGS:
            self.check_raised(BadLog, value, CASE.places, log=value)

    def test_words_next_to_a_secret_are_none(self):
        draw = drawn(3)
        for _ in range(200):
            made = drawn_case(draw)
            log = drawn_log(draw, made)
            found = made.places(log)
            self.assertEqual(found, [
                (at, k) for at, line in enumerate(log) for k, word in enumerate(line)
                if plain_is_secret(made.secrets, line[k - 1] if k else "", word)])
            self.assertTrue(all((at, k + 1) not in found for at, k in found))

    def test_all_words_of_two(self):
        draw = drawn(4)
        for _ in range(10):
            made = drawn_case(draw)
            for ahead in [*drawn_aheads(made), "", "zz"]:
                for word in words_up_to(2):
                    self.assertIs(made.is_secret(ahead, word), plain_is_secret(made.secrets, ahead, word))


class AlikeTest(Checks):
    def check(self, first, second, expected, made=CASE):
        self.assertIs(self.call(made.are_alike, first=first, second=second), expected, (first, second))
        self.assertIs(made.are_alike(second, first), expected)

    def test_alike(self):
        self.check([], [], True)
        self.check([[]], [[]], True)
        self.check([], [[]], False)
        self.check([["a"]], [["a"], []], False)
        self.check([["a"]], [["a", "a"]], False)
        self.check(LOG, [["user-", "a", "ran"], [], ["7", "id-", "8", "9", "user-", "user-"]], True)
        self.check(LOG, [["user-", "a", "run"], [], ["7", "id-", "8", "9", "user-", "user-"]], False)
        self.check(LOG, [["user-", "a", "ran"], [], ["77", "id-", "99", "9", "user-", "user-"]], True)
        self.check(LOG, [["user-", "7", "ran"], [], ["7", "id-", "8", "9", "user-", "user-"]], False)
        self.check(LOG, [["user-", "bob", "ran"], [], ["7", "id-", "8", "7", "user-", "user-"]], False)
        self.check([["user-", "bob"]], [["id-", "7"]], False)

    def test_by_whichever_secret(self):
        made = Case([()], [(("a",), (("digits", 1, 1),)), (("a", "b"), (("letters", 2, 2),))])
        self.check([["a", "7"]], [["a", "xy"]], True, made)
        self.check([["b", "7"]], [["b", "xy"]], False, made)
        self.check([["a", "7"], ["b", "xy"]], [["a", "xy"], ["b", "zz"]], True, made)

    def test_no_logs(self):
        for value in NO_LOGS:
            self.check_raised(BadLog, value, CASE.are_alike, first=value, second=LOG)
            self.check_raised(BadLog, value, CASE.are_alike, first=LOG, second=value)
            self.check_raised(BadLog, value, CASE.are_alike, first=value, second="later")
            for places in ([0], [None], [2, 0]):
                self.check_raised(BadLog, value, CASE.look_same, first=value, second=LOG, places=places)
                self.check_raised(BadLog, value, CASE.look_same, first=LOG, second=value, places=places)
                self.check_raised(BadLog, value, CASE.look_same, first=value, second=None, places=places)

    def test_look_same(self):
        other = [["user-", "bub", "ran"], [], ["8", "id-", "8", "9", "user-", "user-"]]
        last = [["user-", "bub", "ran"], [], ["7", "id-", "8", "9", "user-", "user-"]]
        answers = [(other, [0], False), (other, [], True), (last, [0], True), (last, [0, 0], True), (last, [1], False),
                   (last, (0, 1), False), (last, [1, 0], False), (LOG, [0, 1], True), ([], [], True), ([], [0], False)]
        for second, places, expected in answers:
            self.assertIs(self.call(CASE.look_same, first=LOG, second=second, places=places), expected)

    def test_look_same_by_whole_lines(self):
        # One secret is left out and the other is not; which one it is does not show.
        made = Case([((("a",), DIGITS, OUT), (("a",), EVERY, ("put", "x")), ((), EVERY, OUT))], [(("a",), EVERY)])
        self.assertIs(made.look_same([["a", "1", "a", "b"]], [["a", "b", "a", "1"]], [0]), True)
        self.assertIs(made.look_same([["a", "1", "a", "b"]], [["a", "b", "a", "b"]], [0]), False)

    def test_places_that_are_none(self):
        for value in NO_PLACES:
            for places in ([value], [0, 1, value], (value, 5, None), [0, value, "later"]):
                self.check_raised(BadPlace, value, CASE.look_same, first=LOG, second=LOG, places=places)

    def test_drawn(self):
        draw = drawn(5)
        for _ in range(300):
            made = drawn_case(draw)
            first = drawn_log(draw, made)
            second = [[draw.choice((word, word, "a", "0")) for word in line] for line in first]
            places = drawn_places(draw, made)
            both = zip(first, second)
            self.check(first, second, all(
                word == other[k] or (plain_is_secret(made.secrets, line[k - 1] if k else "", word)
                                     and plain_is_secret(made.secrets, other[k - 1] if k else "", other[k]))
                for line, other in both for k, word in enumerate(line)), made)
            views = [made.views[place] for place in places]
            self.assertIs(self.call(made.look_same, first=first, second=second, places=places),
                          all(plain_masked(view, first) == plain_masked(view, second) for view in views))


class LookTest(Checks):
    def test_looks(self):
        view = ((("a",), DIGITS, OUT), (("a",), EVERY, ("first", 1)), (("bob",), EVERY, ("stars",)))
        made = Case([view, ()], [(("a",), EVERY)])
        answers = [
            ([["a", "7"]], (0, 1), []), ([["a", "7", "bob"]], (0, 1), ["bob"]), ([["a", "bob"]], (0, 1), ["b*"]),
            ([["a", "bob", "ran"]], (0, 1), ["b*", "***"]), ([["a", "bub", "ran"]], (0, 1), ["b*", "ran"]),
            ([[], ["b", "a", "x", "7", "a", "7"]], (1, 2), ["x*", "7"]), ([["a", "7", "a", "x"]], (0, 3), ["x*"]),
        ]
        for log, spot, expected in answers:
            self.assertEqual(self.call(made.look, log=log, spot=spot, place=0), expected)
            line, k = log[spot[0]], spot[1]
            self.assertEqual(made.look(log, spot, 1), line[k:k + 2])

    def test_a_word_left_out_behind_a_secret(self):
        made = Case([(((), DIGITS, OUT),)], [(("a",), LETTERS)])
        self.assertEqual(made.look([["a", "b", "7", "c"]], (0, 1), 0), ["b"])

    def test_the_very_first_error(self):
        for value in NO_LOGS:
            self.check_raised(BadLog, value, CASE.look, log=value, spot=(0, 1), place=0)
            self.check_raised(BadLog, value, CASE.look, log=value, spot=None, place=None)
        for value in NO_SPOTS:
            self.check_raised(BadPlace, value, CASE.look, log=LOG, spot=value, place=0)
            self.check_raised(BadPlace, value, CASE.look, log=LOG, spot=value, place="later")
        for value in NO_PLACES:
            self.check_raised(BadPlace, value, CASE.look, log=LOG, spot=(0, 1), place=value)

    def test_spots_are_not_told_from_the_end(self):
        for spot in ((0, -1), (-1, 1), (-1, -1), (-1, 0), (0, -2)):
            self.check_raised(BadPlace, spot, CASE.look, log=[["user-", "bob"]], spot=spot, place=0)

    def test_drawn(self):
        draw = drawn(6)
        for _ in range(300):
            made = drawn_case(draw)
            log = drawn_log(draw, made)
            for line, k in made.places(log):
                words = log[line]
                for place, view in enumerate(made.views):
                    expected = plain_shown(view, words[k - 1] if k else "", words[k])
                    if k + 1 < len(words):
                        expected += plain_shown(view, words[k], words[k + 1])
                    self.assertEqual(self.call(made.look, log=log, spot=(line, k), place=place), expected)

    def test_out_behind_a_secret_does_not_hang_on_it(self):
        draw = drawn(7)
        for _ in range(100):
            made = drawn_case(draw)
            for ahead in drawn_aheads(made):
                words = [word for word in words_up_to(2)[::5] if made.is_secret(ahead, word)]
                for view in made.views:
                    for further in ("a", "0", "ab", "-"):
                        self.assertLessEqual(len({len(plain_shown(view, word, further)) for word in words}), 1)


if __name__ == "__main__":
    unittest.main()
