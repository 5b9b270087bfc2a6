"""Promises 2 and 12: texts of shapes, rules, views, secrets and logs, and reading them back."""

import re
import unittest

from blackbars import texts
from blackbars.cases import is_secret_told
from blackbars.errors import BadText
from blackbars.shapes import is_shape
from blackbars.texts import (
    log_text, read_log, read_rule, read_secret, read_shape, read_view, rule_text, secret_text, shape_text, view_text,
)
from blackbars.views import is_rule, is_view
from blackbars.words import is_log
from tests.helper import (
    DIGITS, LETTERS, Checks, any_values, drawn, drawn_behind, drawn_secret, drawn_shape, drawn_view, drawn_word,
)

EXAMPLE = """
    >>> from blackbars.texts import rule_text, shape_text
    >>> [shape_text((('letters', 1, None), ('text', '-'))), rule_text((('', 'user-'), (('any', 0, 6),), ('first', 2)))]
    ['letters 1- + text -', 'behind ^,user- any 0-6: first 2']
"""
WRITERS = {read_shape: shape_text, read_rule: rule_text, read_view: view_text, read_secret: secret_text, read_log: log_text}
JUDGES = {read_shape: is_shape, read_rule: is_rule, read_view: is_view, read_secret: is_secret_told, read_log: is_log}
NAME = r"(?:\^|[a-z0-9-]{1,12})"
RUN = r"(?:(?:letters|digits|any) [0-6]-[1-6]?|text [a-z0-9-]{1,6})"
SHAPE = rf"{RUN}(?: \+ {RUN}){{0,3}}"
BEHIND = rf"behind {NAME}(?:,{NAME}){{0,3}} "
RULE = rf"(?:{BEHIND})?{SHAPE}: (?:keep|put [a-z0-9*-]{{1,6}}|(?:first|last) [1-3]|stars|out)"
LINE = r"(?:[a-z0-9-]+(?: [a-z0-9-]+)*)?"
GRAMMAR = {
    read_shape: SHAPE, read_rule: RULE, read_view: rf"(?:{RULE}(?:\n{RULE}){{0,5}})?", read_secret: BEHIND + SHAPE,
    read_log: rf"\(none\)|{LINE}(?:\n{LINE})*",
}


def is_text(read, text):
    """Return whether a text is the text of one thing, by a second, independent reading of [12] and [4], [5]."""
    if re.fullmatch(GRAMMAR[read], text) is None:
        return False
    if read is read_log:
        return True
    for low, high in re.findall(r"(?:letters|digits|any) ([0-6])-([1-6])", text):
        if low > high:
            return False
    for names in re.findall(r"(?:^|\n)behind (\S+)", text):
        names = ["" if name == "^" else name for name in names.split(",")]
        if names != sorted(set(names)):
            return False
    return True


class TextChecks(Checks):
    def check_text(self, read, value, text):
        """Check that a thing has a text and the text is read as the thing."""
        write = WRITERS[read]
        with self.subTest(text=text):
            self.assertTrue(is_text(read, text))
            kind = {read_shape: "shape", read_rule: "rule", read_view: "view", read_secret: "secret", read_log: "log"}[read]
            self.assertEqual(self.call(write, **{kind: value}), text)
            found = self.call(read, text=text)
            self.assertEqual(repr(found), repr(value))
            self.assertTrue(JUDGES[read](found))

    def check_bad(self, read, *values):
        for value in values:
            self.check_raised(BadText, value, read, text=value)


class ExampleTest(Checks):
    def test_example(self):
        self.check_example(EXAMPLE)

    def test_defined_here(self):
        names = ["shape_text", "rule_text", "view_text", "secret_text", "log_text"]
        self.check_defined(texts, [*names, "read_shape", "read_rule", "read_view", "read_secret", "read_log"])


class WrittenTest(TextChecks):
    def test_shapes(self):
        rows = [
            ((("letters", 1, 3),), "letters 1-3"), ((("digits", 2, None),), "digits 2-"), ((("any", 0, 6),), "any 0-6"),
            ((("text", "w"),), "text w"), ((("text", "-"),), "text -"), ((("any", 6, 6),), "any 6-6"), ((("digits", 0, None),), "digits 0-"),
            ((("text", "any"), ("text", "0-1"), ("letters", 0, 1), ("any", 1, 1)), "text any + text 0-1 + letters 0-1 + any 1-1"),
            ((("text", "behind"),), "text behind"),
        ]
        for shape, text in rows:
            self.check_text(read_shape, shape, text)

    def test_rules(self):
        shape = (("letters", 1, None),)
        rows = [
            (((), shape, ("keep",)), "letters 1-: keep"), (((), shape, ("put", "*")), "letters 1-: put *"),
            (((), shape, ("put", "a*b-09")), "letters 1-: put a*b-09"), (((), shape, ("first", 3)), "letters 1-: first 3"),
            (((), shape, ("last", 1)), "letters 1-: last 1"), (((), shape, ("stars",)), "letters 1-: stars"),
            (((), shape, ("out",)), "letters 1-: out"), ((("",), shape, ("out",)), "behind ^ letters 1-: out"),
            ((("", "-", "a", "user-"), (("text", "out"), ("any", 0, 2)), ("put", "out")), "behind ^,-,a,user- text out + any 0-2: put out"),
            ((("abcdefghijkl",), (("text", "-"),), ("put", "1")), "behind abcdefghijkl text -: put 1"),
        ]
        for rule, text in rows:
            self.check_text(read_rule, rule, text)

    def test_views(self):
        rule, other = (((), LETTERS, ("stars",)), "letters 1-: stars"), ((("u",), DIGITS, ("out",)), "behind u digits 1-: out")
        self.check_text(read_view, (), "")
        self.check_text(read_view, (rule[0],), rule[1])
        self.check_text(read_view, (rule[0], other[0], rule[0]), f"{rule[1]}\n{other[1]}\n{rule[1]}")
        self.check_text(read_view, (other[0],) * 6, "\n".join([other[1]] * 6))

    def test_secrets(self):
        self.check_text(read_secret, (("",), LETTERS), "behind ^ letters 1-")
        self.check_text(read_secret, (("a", "b"), (("any", 0, 6), ("text", "x"))), "behind a,b any 0-6 + text x")
        self.check_text(read_secret, (("", "0", "a", "b"), (("digits", 3, 3),)), "behind ^,0,a,b digits 3-3")

    def test_logs(self):
        rows = [
            ([], "(none)"), ([[]], ""), ([[], []], "\n"), ([["a"]], "a"), ([["a", "b-0"], ["c"]], "a b-0\nc"), ([[], ["a"], []], "\na\n"),
            ([["none"]], "none"), ([["-"] * 50] * 50, "\n".join([" ".join("-" * 50)] * 50)), ([["a" * 200]], "a" * 200),
        ]
        for log, text in rows:
            self.check_text(read_log, log, text)

    def test_what_is_read_is_new(self):
        for _ in range(2):
            log = read_log("a b\n")
            self.assertEqual(log, [["a", "b"], []])
            log[0].append("x")
            log.append([])
            self.assertEqual(read_log("(none)"), [])
            read_log("(none)").append([])


class RefusedTest(TextChecks):
    def test_any_values(self):
        for value in [*any_values(), 10 ** 40, b"a", ["letters 1-"], ("letters 1-",), (("letters", 1, None),), [["a"]]]:
            for read in WRITERS:
                if not isinstance(value, str) or not is_text(read, value):
                    self.check_bad(read, value)

    def test_shapes(self):
        self.check_bad(
            read_shape, "letters", "letters ", "letters 1", "letters 1-0", "letters 3-2", "letters 7-", "letters 1-7", "letters 01-3", "letters 1-03",
            "letters 1-3 ", " letters 1-3", "letters  1-3", "letters 1 -3", "letters 1-3\n", "letters -3", "letters 1-3-", "letters 1--", "Letters 1-3",
            "letters 1-None", "letters +1-3", "letters 1-3+any 0-1", "letters 1-3 +any 0-1", "letters 1-3  + any 0-1", "letters 1-3 + ", " + letters 1-3",
            "letters 1-3 + + any 0-1", "text", "text ", "text *", "text A", "text a b", "text abcdefg", "text a+b", "words 1-2", "any 0- + any 0- + any 0- + any 0- + any 0-",
            "behind a letters 1-3", "letters 1-3: keep", "letters 10-", "letters 0-10", "letters None-", "letters 1-3,any 0-1", "text ^", "letters 1-+2",
        )

    def test_rules(self):
        self.check_bad(
            read_rule, "letters 1-", "letters 1-:", "letters 1-: ", "letters 1-:keep", "letters 1- : keep", "letters 1-:  keep", "letters 1-: keep ",
            "letters 1-: Keep", "letters 1-: put", "letters 1-: put ", "letters 1-: put abcdefg", "letters 1-: put a b", "letters 1-: put A", "letters 1-: first",
            "letters 1-: first 0", "letters 1-: first 4", "letters 1-: first 01", "letters 1-: first  1", "letters 1-: last x", "letters 1-: keep 1",
            "letters 1-: out x", "letters 1-: stars 1", "letters 1-: hide", ": keep", "behind letters 1-: keep", "behind  letters 1-: keep",
            "behind a,a letters 1-: keep", "behind b,a letters 1-: keep", "behind a,^ letters 1-: keep", "behind a, b letters 1-: keep", "behind a,,b letters 1-: keep",
            "behind ,a letters 1-: keep", "behind a,b,c,d,e letters 1-: keep", "behind abcdefghijklm letters 1-: keep", "behind a* letters 1-: keep",
            "behind A letters 1-: keep", "behind ^^ letters 1-: keep", "behind a  letters 1-: keep", "behind a\nletters 1-: keep", "letters 1-: keep\n", "letters 1-: keep: keep",
            "letters 1-: keep\nletters 1-: keep", " letters 1-: keep", "Behind a letters 1-: keep", "behind a", "letters 1-: first -1", "letters 1-: first 1 ",
        )

    def test_views(self):
        rule = "letters 1-: keep"
        self.check_bad(read_view, "\n", rule + "\n", "\n" + rule, rule + "\n\n" + rule, rule + "\r\n" + rule, rule + " \n" + rule, rule + "; " + rule, " ", "\n".join([rule] * 7), "keep")

    def test_secrets(self):
        self.check_bad(
            read_secret, "letters 1-", "behind a", "behind a ", "behind letters 1-", "behind a letters 1-: keep", "behind a  letters 1-", "behind a letters 1- ",
            "behind b,a letters 1-", "behind a,a letters 1-", "behind ^,^ letters 1-", "behind a,b,c,d,e letters 1-", "behind abcdefghijklm letters 1-", "", "behind  letters 1-",
            "behind a letters 1-\n", " behind a letters 1-",
        )

    def test_logs(self):
        self.check_bad(read_log, " ", "a ", " a", "a  b", "a\n ", "A", "a*", "a\tb", "a\r\nb", "(none) ", "(none)\n", "(none)\na", "a (none)", "(None)", "none)", "a_b", "a,b")


class DrawnTest(TextChecks):
    def things(self, draw):
        view = drawn_view(draw)
        rule = (drawn_behind(draw, (0, 1, 2, 4)), drawn_shape(draw), draw.choice((("put", "a*"), ("first", 2), ("stars",))))
        log = [[drawn_word(draw, 4) for _ in range(draw.randint(0, 3))] for _ in range(draw.randint(0, 3))]
        return {read_shape: drawn_shape(draw), read_rule: rule, read_view: view, read_secret: drawn_secret(draw), read_log: log}

    def test_there_and_back(self):
        draw = drawn(1)
        for _ in range(200):
            for read, value in self.things(draw).items():
                self.check_text(read, value, WRITERS[read](value))

    def test_texts_that_are_a_little_changed(self):
        draw = drawn(2)
        told = {True: 0, False: 0}
        pieces = [*" ,^+-:*\n01367ab", "  ", ": ", " + ", "behind ", "any ", "(none)", "text ", "put ", "None", "\t", "A"]
        for _ in range(500):
            for read, value in self.things(draw).items():
                text = WRITERS[read](value)
                at, end = sorted((draw.randint(0, len(text)), draw.randint(0, len(text))))
                end = draw.choice((at, at, min(at + 1, len(text)), end))
                text = text[:at] + draw.choice(["", *pieces]) + text[end:]
                told[is_text(read, text)] += 1
                if is_text(read, text):
                    self.assertEqual(WRITERS[read](read(text)), text)
                else:
                    self.check_bad(read, text)
        self.assertGreater(min(told.values()), 200)


if __name__ == "__main__":
    unittest.main()
