"""Promises 2, 12 and 15: the console and its commands."""

import unittest

from blackbars import console as module
from blackbars.cases import Case
from blackbars.console import Console
from blackbars.errors import BadCase, BadCommand, BadNumber, BadPlace
from blackbars.fewest import first_fewer
from blackbars.hidden import hidden
from blackbars.learned import first_shown, other_log
from blackbars.texts import log_text, secret_text, view_text
from blackbars.views import masked
from tests.helper import Checks, any_values, drawn, drawn_case, drawn_log, drawn_secret, drawn_view, short_secret
from tests.test_texts import is_text, read_log, read_secret, read_view

EXAMPLE = """
    >>> from blackbars.console import Console
    >>> console = Console()
    >>> console('view behind id- digits 1-2: stars')
    'ok'
    >>> console('secret behind id- digits 1-2')
    'ok'
    >>> [console('hidden id- 42'), console('shown'), console('fewer 11')]
    ['100', 'id- 0 | id- 00', 'id- 0 10']
"""
NUMBERS = ["0", "7", "10", "999999999", "100000000"]
NO_NUMBERS = ["", " ", "00", "01", "007", "-1", "+1", "1.0", "1 ", "1000000000", "0000000001", "9999999999", "1,000", "x", "1x", "1_0", "0x1", "1\n", "None"]
NO_VIEWS = ["a", "keep", "letters 1-", "letters 1-: keep ", " letters 1-: keep", "letters 1-: keep\n", "behind b,a letters 1-: keep", "letters 1-: keep; digits 1-: keep", " "]
NO_SECRETS = ["", " ", "a", "letters 1-", "behind a", "behind a letters 1-: keep", "behind a letters 1- ", " behind a letters 1-", "behind b,a letters 1-"]
NO_LOG_TEXTS = ["A", "a ", " a", "a  b", "a*", "(none) ", " ", "a\n ", "(NONE)", "a;b"]


def run(*commands):
    """Return a console that has executed commands."""
    console = Console()
    for command in commands:
        console(command)
    return console


def filled():
    return run("view behind u letters 1-3: first 1", "view letters 1-2: stars\ndigits 1-: out", "secret behind u letters 1-3", "secret behind ^ text bob")


class ConsoleChecks(Checks):
    def check_told(self, console, command, told):
        with self.subTest(command=command):
            self.assertEqual(console(command), told)
            self.assertEqual(console(command=command), told)

    def check_failed(self, console, command, error, attribute, kept):
        """Check that a command raises an error with a value, the very one for BadCommand, and changes nothing."""
        before = console("views"), console("secrets")
        with self.subTest(command=repr(command)[:80]):
            for call in (lambda: console(command), lambda: console(command=command)):
                with self.assertRaises(error) as caught:
                    call()
                self.assertIs(type(caught.exception), error)
                value = getattr(caught.exception, attribute)
                self.assertEqual(repr(value), repr(kept))
                if error is BadCommand:
                    self.assertIs(value, command)
            self.assertEqual((console("views"), console("secrets")), before)

    def check_bad(self, console, *commands):
        for command in commands:
            self.check_failed(console, command, BadCommand, "command", command)


class ExampleTest(Checks):
    def test_example(self):
        self.check_example(EXAMPLE)

    def test_defined_here(self):
        self.check_defined(module, [], [("Console", ["__init__", "__call__"])])


class ViewsTest(ConsoleChecks):
    def test_views_and_secrets(self):
        console = Console()
        self.check_told(console, "views", "none")
        self.check_told(console, "secrets", "none")
        self.assertEqual(console("view letters 1-: keep"), "ok")
        self.check_told(console, "views", "letters 1-: keep")
        self.assertEqual(console("view "), "ok")
        self.assertEqual(console(command="view behind ^,a any 0-: put *\ndigits 2-2: out"), "ok")
        self.check_told(console, "views", "letters 1-: keep |  | behind ^,a any 0-: put *;digits 2-2: out")
        self.check_told(console, "secrets", "none")
        self.assertEqual(console("secret behind ^ text bob"), "ok")
        self.assertEqual(console("secret behind ^ text bob"), "ok")
        self.check_told(console, "secrets", "behind ^ text bob | behind ^ text bob")
        self.assertEqual(console("clear"), "ok")
        self.check_told(console, "views", "none")
        self.check_told(console, "secrets", "none")
        self.assertEqual(console("clear"), "ok")

    def test_an_empty_view(self):
        console = run("view ")
        self.check_told(console, "views", "")
        self.assertEqual(run("view ", "view ")("views"), " | ")

    def test_more_views_than_a_case_has(self):
        console = run(*["view digits 1-: stars"] * 4, "secret behind u letters 1-")
        self.check_told(console, "mask 3 a 77", "a **")
        view = (((), (("digits", 1, None),), ("stars",)),)
        kept = ((view,) * 4, ((("u",), (("letters", 1, None),)),))
        for command in ("hidden u a", "shown", "fewer 7", "fewer 0"):
            self.check_failed(console, command, BadCase, "value", kept)

    def test_consoles_share_nothing(self):
        first, second = Console(), Console()
        first("view letters 1-: keep")
        first("secret behind u letters 1-")
        self.assertEqual((second("views"), second("secrets")), ("none", "none"))
        second("clear")
        self.assertEqual(first("views"), "letters 1-: keep")


class MaskTest(ConsoleChecks):
    def test_mask(self):
        console = filled()
        rows = [("0 u abc ab", "u a* ab"), ("1 u abc ab 7", "* abc **"), ("1 7\na\n\nab 77", "\n*\n\n**"), ("0 (none)", "(none)"), ("0 ", ""), ("0 \n", "\n"),
                ("1 7", ""), ("1 7\n7", "\n"), ("1 text", "text")]
        for text, told in rows:
            self.check_told(console, f"mask {text}", told)

    def test_no_place(self):
        for place in (2, 3, 10, 999999999):
            for text in ("a", "", "(none)"):
                self.check_failed(filled(), f"mask {place} {text}", BadPlace, "value", place)
        self.check_failed(Console(), "mask 0 a", BadPlace, "value", 0)

    def test_bad_commands_come_first(self):
        for place in ("0", "7", *NO_NUMBERS):
            for text in NO_LOG_TEXTS:
                self.check_bad(filled(), f"mask {place} {text}")
        for place in NO_NUMBERS:
            self.check_bad(filled(), f"mask {place} a", f"mask {place.strip()}")
        self.check_bad(filled(), "mask", "mask ", "mask 0", "mask 7", "mask  0 a", "mask 0  a")


class HiddenTest(ConsoleChecks):
    def test_hidden(self):
        console = run("view behind u letters 1-3: first 1", "secret behind u letters 1-3", "secret behind v,w letters 1-")
        rows = [("u abc", "703"), ("u abc u b\nv x", "703 703 1"), ("a b c", "none"), ("", "none"), ("(none)", "none"), ("\n\n", "none"), ("u", "none"), ("u v", "none")]
        for text, told in rows:
            self.check_told(console, f"hidden {text}", told)
        console = run("view letters 1-: put x", "secret behind v letters 1-", "secret behind id- digits 1-2")
        self.check_told(console, "hidden v a id- 7\nv b", "endless 1 endless")

    def test_all_views(self):
        console = run("view letters 1-: first 1", "view letters 1-: last 1", "secret behind 7 letters 1-3")
        self.check_told(console, "hidden 7 abc 7 a", "27 28")

    def test_without_views_or_secrets(self):
        for commands, kept in (([], ((), ())), (["view "], (((),), ())), (["secret behind u letters 1-"], ((), ((("u",), (("letters", 1, None),)),)))):
            for command in ("hidden u a", "hidden ", "shown", "fewer 5", "fewer 0", "fewer 1001"):
                self.check_failed(run(*commands), command, BadCase, "value", kept)

    def test_views_and_secrets_that_do_not_go_together(self):
        rule, secret = (("bob",), (("any", 1, None),), ("out",)), (("u",), (("letters", 1, None),))
        console = run("view behind bob any 1-: out", "secret behind u letters 1-")
        for command in ("hidden u a", "shown", "fewer 5", "fewer 0"):
            self.check_failed(console, command, BadCase, "value", (((rule,),), (secret,)))
        console("clear")
        console("view any 1-: out")
        console("secret behind u letters 1-")
        self.check_told(console, "hidden u a", "endless")

    def test_after_a_change(self):
        console = run("view letters 1-: first 1", "secret behind 7 letters 1-3")
        self.check_told(console, "hidden 7 abc", "703")
        console("view letters 1-: last 1")
        self.check_told(console, "hidden 7 abc", "27")
        console("secret behind 8 letters 1-3")
        self.check_told(console, "hidden 8 abc", "27")
        self.check_bad(console, "view x")
        self.check_told(console, "hidden 8 abc", "27")
        console("clear")
        self.check_failed(console, "hidden 8 abc", BadCase, "value", ((), ()))


class ShownTest(ConsoleChecks):
    def test_shown(self):
        console = run("view behind user- letters 1-: put x\nbehind bob letters 1-: put y", "secret behind user- letters 1-")
        self.check_told(console, "shown", "user- a a | user- bob a")
        self.check_told(run("view behind user- letters 1-: put x", "secret behind user- letters 1-"), "shown", "nothing")
        self.check_told(run("view ", "secret behind ^ digits 1-"), "shown", "0 | 1")


class FewerTest(ConsoleChecks):
    def test_fewer(self):
        console = run("view behind id- digits 2-3: last 2", "secret behind id- digits 2-3")
        for number, told in ((12, "id- 00 11"), (11, "none"), (1, "none"), (1000, "id- 00 11")):
            self.check_told(console, f"fewer {number}", told)

    def test_bad_numbers(self):
        console = run("view ", "secret behind id- digits 2-3")
        for number in (0, 1001, 1002, 999999999):
            self.check_failed(console, f"fewer {number}", BadNumber, "value", number)
        self.check_bad(console, *[f"fewer {text}" for text in NO_NUMBERS], "fewer", "fewer  7", "fewer 7 7")


class CommandTest(ConsoleChecks):
    def test_any_values(self):
        for value in [*any_values(), 10 ** 50, ["clear"], ("clear",), {"clear": 1}, b"clear"]:
            self.check_bad(filled(), value)
            self.check_bad(Console(), value)

    def test_words_alone(self):
        for word in ("clear", "shown", "views", "secrets"):
            self.check_bad(filled(), word + " ", word + " x", " " + word, word + "\n", word.upper(), word + "  ", word[:-1] if word != "views" else "vie", word + "x")

    def test_words_with_something_behind(self):
        for word in ("view", "secret", "mask", "hidden", "fewer"):
            self.check_bad(filled(), word, " " + word, word + "\n", word.upper() + " ", "\n" + word + " ", word + "\t")
        self.check_bad(filled(), "secret ", "mask ", "fewer ", "help", "help x", "undo 1", "", " ", "view\nletters 1-: keep", "viewletters 1-: keep")

    def test_no_such_texts(self):
        self.check_bad(filled(), *[f"view {text}" for text in NO_VIEWS])
        self.check_bad(filled(), *[f"secret {text}" for text in NO_SECRETS])
        self.check_bad(Console(), *[f"hidden {text}" for text in NO_LOG_TEXTS])
        self.check_bad(filled(), *[f"hidden {text}" for text in NO_LOG_TEXTS])
        self.check_bad(filled(), "view  letters 1-: keep", "secret  behind u letters 1-", "hidden  u a", "hidden  ")

    def test_numbers_of_nine_figures(self):
        for text in NUMBERS:
            self.check_failed(Console(), f"mask {text} a", BadPlace, "value", int(text))
        self.check_bad(Console(), *[f"mask {text} a" for text in NO_NUMBERS])


class DrawnTest(ConsoleChecks):
    def test_against_the_functions(self):
        draw = drawn(1)
        for _ in range(60):
            case = drawn_case(draw, draw.choice((drawn_secret, short_secret)))
            console = run(*[f"view {view_text(view)}" for view in case.views], *[f"secret {secret_text(secret)}" for secret in case.secrets])
            places = list(range(len(case.views)))
            for _ in range(4):
                log = drawn_log(draw, case)
                many = [hidden(case, log, spot, places) for spot in case.places(log)]
                self.check_told(console, f"hidden {log_text(log)}", " ".join("endless" if each is None else str(each) for each in many) or "none")
                place = draw.choice(places)
                self.check_told(console, f"mask {place} {log_text(log)}", log_text(masked(case.views[place], log)))
            log = first_shown(case, places)
            self.check_told(console, "shown", f"{log_text(log)} | {log_text(other_log(case, places, log))}" if log else "nothing")
            for number in (1, 2, 30, 1000):
                found = first_fewer(case, places, number)
                self.check_told(console, f"fewer {number}", f"{log_text(found[0])} {found[2]}" if found else "none")
            self.check_told(console, "views", " | ".join(view_text(view).replace("\n", ";") for view in case.views))
            self.check_told(console, "secrets", " | ".join(map(secret_text, case.secrets)))

    def test_texts_that_are_a_little_changed(self):
        draw = drawn(2)
        for _ in range(300):
            for word, read, text in (("view", read_view, view_text(drawn_view(draw))), ("secret", read_secret, secret_text(drawn_secret(draw))),
                                     ("mask 0", read_log, "a b\nc")):
                at = draw.randint(0, len(text))
                text = text[:at] + draw.choice(["", " ", "\n", "a", "1", "*", ","]) + text[at + draw.randint(0, 1):]
                console = run("view ")
                if is_text(read, text):
                    self.assertEqual(console(f"{word} {text}"), text if word == "mask 0" else "ok")
                else:
                    self.check_bad(console, f"{word} {text}")


if __name__ == "__main__":
    unittest.main()
