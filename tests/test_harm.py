"""Promises 2, 3, 6 and 7: what a view shows of words that are not secret."""

import unittest

from blackbars import harm
from blackbars.cases import Case
from blackbars.errors import BadPlace
from blackbars.harm import first_harmed, harmless_rules
from blackbars.lots import none_lot
from blackbars.words import log_key
from tests.helper import (
    DIGITS, EVERY, LETTERS, Checks, aheads_of, done_lots, drawn, drawn_aheads, drawn_case, least_line, names_of,
    plain_is_secret, plain_shown, same_lot, secrets_lot, short_secret, words_of, words_up_to,
)
from tests.test_cases import CASE, NO_PLACES

EXAMPLE = """
    >>> from blackbars.cases import Case
    >>> from blackbars.harm import first_harmed, harmless_rules
    >>> letters = (('letters', 1, None),)
    >>> view = ((('user-',), letters, ('out',)), ((), (('letters', 3, None),), ('first', 2)))
    >>> case = Case([view], [(('user-',), letters)])
    >>> [first_harmed(case, 0), harmless_rules(case, 0)]
    [[['aaa']], [0]]
"""
KEEP = ("keep",)
OUT = ("out",)
ANY = ("any", 0, None)


def is_harmed(case, place, log):
    """Return whether a view shows a word of a log that is not secret otherwise than it is, by a plain reading."""
    for line in log:
        for at, word in enumerate(line):
            ahead = line[at - 1] if at else ""
            if not plain_is_secret(case.secrets, ahead, word):
                if plain_shown(case.views[place], ahead, word) != [word]:
                    return True
    return False


class HarmChecks(Checks):
    def check_harm(self, view, secrets, log, harmless):
        """Check both functions for a view, at either place of a case."""
        with self.subTest(view=view, secrets=secrets):
            for place, views in ((0, [view]), (1, [(), view]), (0, [view, ()])):
                case = Case(views, secrets)
                self.assertEqual(self.call(first_harmed, case=case, place=place), log)
                self.assertEqual(self.call(harmless_rules, case=case, place=place), harmless)
                if log is not None:
                    self.assertTrue(is_harmed(case, place, log))


class ExampleTest(Checks):
    def test_example(self):
        self.check_example(EXAMPLE)

    def test_defined_here(self):
        self.check_defined(harm, ["first_harmed", "harmless_rules"])


class HarmTest(HarmChecks):
    def test_no_rules_no_harm(self):
        self.check_harm((), [(("u",), LETTERS)], None, [])
        self.check_harm((((), EVERY, ("keep",)),), [(("u",), LETTERS)], None, [])
        self.check_harm((((), EVERY, ("keep",)), ((), EVERY, OUT)), [(("u",), LETTERS)], None, [1])

    def test_secrets_alone_are_masked(self):
        secrets = [(("id-", "u"), DIGITS)]
        self.check_harm(((("u",), DIGITS, ("stars",)),), secrets, None, [0])
        self.check_harm(((("id-", "u"), DIGITS, ("stars",)), (("u",), (("text", "7"),), OUT)), secrets, None, [0, 1])
        self.check_harm(((("", "u"), DIGITS, ("stars",)),), secrets, [["0"]], [])
        self.check_harm((((), DIGITS, ("stars",)),), secrets, [["0"]], [])
        self.check_harm(((("u",), (("any", 1, None),), ("stars",)),), secrets, [["u", "-"]], [])

    def test_behind_the_word_ahead_alone(self):
        secrets = [(("u",), LETTERS)]
        self.check_harm(((("bob",), DIGITS, ("last", 1)),), secrets, [["bob", "0"]], [])
        self.check_harm(((("bob",), DIGITS, ("last", 1)), (("0",), LETTERS, ("stars",))), secrets, [["0", "a"]], [])
        self.check_harm(((("bob", "x-"), DIGITS, ("last", 1)),), secrets, [["x-", "0"]], [])
        # A secret that is left out is the word ahead of the next one all the same.
        view = ((("u",), LETTERS, OUT), (("zz",), DIGITS, ("stars",)))
        self.check_harm(view, [(("u", "zz"), LETTERS)], [["u", "u"]], [])
        view = ((("u",), (("letters", 2, None),), OUT), (("zz",), DIGITS, ("stars",)))
        self.check_harm(view, [(("u",), LETTERS)], [["zz", "0"]], [0])
        # u itself is no secret behind u, as it stands in a behind of a secret.
        self.check_harm(((("u",), LETTERS, ("stars",)),), secrets, [["u", "u"]], [])
        self.check_harm(((("u",), (("letters", 2, None),), ("stars",)),), secrets, None, [0])

    def test_a_word_that_no_rule_names(self):
        # Behind a and u all is kept, behind all others digits are put.
        view = ((("-", "0", "1", "a"), EVERY, ("keep",)), (("",), EVERY, ("keep",)), ((), DIGITS, ("put", "x")))
        self.check_harm(view, [(("u",), DIGITS)], [["2", "0"]], [])
        view = ((("-",), EVERY, ("keep",)), (("",), EVERY, ("keep",)), ((), DIGITS, ("put", "x")))
        self.check_harm(view, [(("0", "1"), DIGITS)], [["0", "0"]], [])
        self.check_harm(view, [(("0", "1"), LETTERS)], [["0", "0"]], [])

    def test_a_text_that_is_the_word(self):
        secrets = [(("u",), LETTERS)]
        self.check_harm((((), (("text", "a"),), ("put", "a")),), secrets, None, [])
        self.check_harm((((), (("letters", 1, 1),), ("put", "a")),), secrets, [["b"]], [])
        self.check_harm((((), EVERY, ("put", "-")),), secrets, [["0"]], [])
        self.check_harm((((), EVERY, ("put", "0")),), secrets, [["-"]], [])
        self.check_harm((((), (("text", "ab"),), ("put", "ab*")),), secrets, [["ab"]], [])
        self.check_harm((((), (("text", "ab"),), ("first", 3)),), secrets, [["ab"]], [])
        self.check_harm((((), (("text", "ab"),), ("last", 3)),), secrets, [["ab"]], [])

    def test_all_words_are_secret(self):
        secrets = [(("", "u"), EVERY)]
        self.check_harm(((("",), EVERY, OUT),), secrets, [["u"]], [])
        self.check_harm(((("",), LETTERS, ("keep",)), (("",), EVERY, OUT),), secrets, None, [1])
        self.check_harm(((("", "u"), (("any", 2, None),), OUT), (("u",), EVERY, ("first", 1))), secrets, [["u", "u"]], [0])

    def test_rules_that_are_never_done(self):
        secrets = [(("u",), LETTERS)]
        view = (((), LETTERS, ("keep",)), ((), (("letters", 2, 2),), OUT), (("u",), (("text", "bob"),), ("stars",)))
        self.check_harm(view, secrets, None, [1, 2])
        view = ((("u",), EVERY, ("stars",)), ((), (("digits", 6, 6),), ("put", "0")), (("u",), EVERY, OUT))
        self.check_harm(view, secrets, [["000000"]], [2])
        self.check_harm(view, [(("u",), EVERY)], [["000000"]], [2])

    def test_six_rules(self):
        view = tuple(((name,), (("digits", at + 1, at + 1),), OUT) for at, name in enumerate(("", "a", "b", "c", "d", "e")))
        self.check_harm(view, [(("", "a"), DIGITS), (("b",), (("digits", 3, 3),))], [["c", "0000"]], [0, 1, 2])


class DrawnTest(HarmChecks):
    def test_by_lots(self):
        draw = drawn(1)
        sizes, some_harmless = [], 0
        for _ in range(250):
            case = drawn_case(draw)
            place = draw.randrange(len(case.views))
            view = case.views[place]
            aheads = aheads_of({*names_of(view), *drawn_aheads(case)})

            def harmed(ahead):
                lots = zip(done_lots(view, ahead), [*(act for _, _, act in view), KEEP])
                found = none_lot()
                for lot, act in lots:
                    found = found | lot - same_lot(act, KEEP)
                return found - secrets_lot(case.secrets, ahead)

            log = least_line(aheads, harmed)
            self.assertEqual(first_harmed(case, place), log, (view, case.secrets))
            sizes.append(len(log[0]) if log else 0)
            harmful = {at for ahead in aheads for at, lot in enumerate(done_lots(view, ahead))
                       if (lot - secrets_lot(case.secrets, ahead)).least()}
            harmless = [at for at in range(len(view)) if at not in harmful]
            self.assertEqual(harmless_rules(case, place), harmless)
            some_harmless += 0 < len(harmless) < len(view)
        self.assertEqual(set(sizes), {0, 1, 2})
        self.assertGreater(some_harmless, 20)

    def test_by_all_short_words(self):
        draw = drawn(2)
        for _ in range(60):
            case = drawn_case(draw, short_secret)
            place = draw.randrange(len(case.views))
            log = first_harmed(case, place)
            if log is not None:
                self.assertTrue(is_harmed(case, place, log))
            if log is None or len(log[0]) == 2:
                self.assertFalse(is_harmed(case, place, [[word] for word in words_up_to(2)]))
            for ahead in aheads_of({*names_of(case.views[place]), *drawn_aheads(case)})[1:]:
                for word in words_of(1):
                    if is_harmed(case, place, [[ahead, word]]):
                        self.assertLessEqual(log_key(log), log_key([[ahead, word]]))


class ErrorsTest(Checks):
    def test_the_very_place(self):
        for value in NO_PLACES:
            for function in (first_harmed, harmless_rules):
                self.check_raised(BadPlace, value, function, case=CASE, place=value)

    def test_what_is_returned_is_new(self):
        case = Case([((("0",), EVERY, OUT), ((), EVERY, OUT))], [(("u",), LETTERS)])
        for _ in range(2):
            log, rules = first_harmed(case, 0), harmless_rules(case, 0)
            self.assertEqual((log, rules), ([["-"]], []))
            log[0].append("x")
            log.append([])
            rules.append(7)


if __name__ == "__main__":
    unittest.main()
