"""Promises 2, 3 and 6: views that mask all logs to the same, and rules that do nothing for that."""

import unittest

from blackbars import alike
from blackbars.alike import changeable, first_unlike, idle_rules, spare_rules
from blackbars.lots import none_lot
from blackbars.words import log_key
from tests.helper import (
    DIGITS, EVERY, LETTERS, Checks, aheads_of, done_lots, drawn, drawn_act, drawn_shape, drawn_view, least_line,
    names_of, plain_masked, same_lot, words_up_to,
)

EXAMPLE = """
    >>> from blackbars.alike import changeable, first_unlike, idle_rules, spare_rules
    >>> letters, word = (('letters', 1, None),), (('text', 'bob'),)
    >>> view = (((), letters, ('stars',)), ((), word, ('put', '***')))
    >>> [first_unlike(view, view[1:]), idle_rules(view), spare_rules(view), changeable(view)]
    [[['a']], [1], [1], [0]]
"""
KEEP = ("keep",)
OUT = ("out",)
STARS = ("stars",)
ANY = ("any", 0, None)
FIRST = {k: ("first", k) for k in (1, 2, 3)}
LAST = {k: ("last", k) for k in (1, 2, 3)}


def sized(size):
    return (("any", size, size),)


def act_view(act, shape=EVERY):
    return (((), shape, act),)


def lots_unlike(first, second):
    """Return the least log that two views mask differently, by the lots of what their rules are done for."""
    def unlike(ahead):
        found = none_lot()
        for lot, (_, _, act) in zip(done_lots(first, ahead), [*first, ((), (), KEEP)]):
            for other, (_, _, other_act) in zip(done_lots(second, ahead), [*second, ((), (), KEEP)]):
                found = found | (lot & other) - same_lot(act, other_act)
        return found

    return least_line(aheads_of(names_of(first, second)), unlike)


class AlikeChecks(Checks):
    def check_unlike(self, first, second, log):
        with self.subTest(first=first, second=second):
            self.assertEqual(self.call(first_unlike, first=first, second=second), log)
            self.assertEqual(first_unlike(second, first), log)
            if log is not None:
                self.assertNotEqual(plain_masked(first, log), plain_masked(second, log))

    def check_rules(self, view, idle, spare, change):
        with self.subTest(view=view):
            self.assertEqual(self.call(idle_rules, view=view), idle)
            self.assertEqual(self.call(spare_rules, view=view), spare)
            self.assertEqual(self.call(changeable, view=view), change)


class ExampleTest(Checks):
    def test_example(self):
        self.check_example(EXAMPLE)

    def test_defined_here(self):
        self.check_defined(alike, ["first_unlike", "idle_rules", "spare_rules", "changeable"])


class UnlikeTest(AlikeChecks):
    def test_a_view_and_itself(self):
        for view in ((), act_view(OUT), act_view(FIRST[3], LETTERS), (*act_view(STARS, DIGITS), (("a",), EVERY, OUT))):
            self.check_unlike(view, view, None)
        self.check_unlike((), act_view(KEEP), None)
        self.check_unlike(act_view(KEEP, DIGITS), act_view(KEEP), None)

    def test_single_acts(self):
        rows = [
            (FIRST[1], FIRST[2], "--"), (FIRST[1], FIRST[3], "--"), (FIRST[2], FIRST[3], "---"), (LAST[1], LAST[2], "--"),
            (LAST[3], LAST[2], "---"), (FIRST[1], LAST[1], "-"), (FIRST[1], KEEP, "-"), (STARS, FIRST[3], "-"), (STARS, LAST[1], "-"),
            (OUT, KEEP, "-"), (OUT, STARS, "-"), (OUT, FIRST[1], "-"), (KEEP, STARS, "-"), (("put", "x"), ("put", "y"), "-"),
            (("put", "-"), KEEP, "0"), (("put", "a"), KEEP, "-"), (("put", "*"), STARS, "--"), (("put", "**"), STARS, "-"),
            (("put", "-*"), FIRST[1], "0"), (("put", "*-"), LAST[1], "0"), (("put", "--*"), FIRST[2], "-"), (("put", "*-"), LAST[2], "0"),
            (("put", "x"), OUT, "-"),
        ]
        for first, second, word in rows:
            self.check_unlike(act_view(first), act_view(second), [[word]])

    def test_texts_that_read_alike(self):
        same = [
            (("put", "a*"), FIRST[1], (("text", "a"), ANY)), (("put", "a*"), FIRST[2], (("text", "a"),)),
            (("put", "ab*"), FIRST[2], (("text", "ab"), ANY)), (("put", "ab*"), FIRST[3], (("text", "ab"),)),
            (("put", "*a"), LAST[1], (ANY, ("text", "a"))), (("put", "*ab"), LAST[3], (("text", "ab"),)),
            (("put", "***"), STARS, sized(3)), (("put", "ab"), KEEP, (("text", "ab"),)), (FIRST[1], FIRST[3], sized(1)),
            (FIRST[2], FIRST[3], sized(2)), (LAST[2], LAST[3], (("any", 1, 2),)),
        ]
        for first, second, shape in same:
            self.check_unlike(act_view(first, shape), act_view(second, shape), None)
            self.check_unlike(act_view(second, shape) + act_view(first, LETTERS), act_view(first, shape) + act_view(first, LETTERS), None)
        other = [
            (("put", "a*"), FIRST[2], (("text", "a"), ("any", 0, 1)), "a-"), (("put", "a*"), FIRST[1], (("any", 1, 1),), "-"),
            (("put", "*ab"), LAST[3], (ANY, ("text", "ab")), "-ab"), (("put", "***"), STARS, (("any", 3, 4),), "----"),
            (FIRST[2], FIRST[3], (("letters", 2, 6),), "aaa"), (("put", "ab"), KEEP, LETTERS, "a"),
            (("put", "ab"), KEEP, (("text", "ab"), ANY), "ab-"),
        ]
        for first, second, shape, word in other:
            self.check_unlike(act_view(first, shape), act_view(second, shape), [[word]])

    def test_behind_words(self):
        self.check_unlike(((("",), LETTERS, OUT),), ((("",), LETTERS, STARS),), [["a"]])
        self.check_unlike(((("bob", "u"), LETTERS, OUT),), ((("bob",), LETTERS, OUT),), [["u", "a"]])
        self.check_unlike(((("b", "bob"), LETTERS, OUT),), ((("b",), LETTERS, OUT),), [["bob", "a"]])
        # Behind all words but two the first view shows it otherwise.
        first = ((("", "-", "0"), EVERY, KEEP), ((), (("letters", 2, 2),), OUT))
        self.check_unlike(first, (), [["1", "aa"]])
        self.check_unlike(first, first[:1], [["1", "aa"]])
        self.check_unlike(first, first[1:], [["aa"]])
        # A longer word ahead, but a shorter one behind it.
        first = ((("bob-7",), DIGITS, OUT), (("a",), (("digits", 6, None),), OUT))
        self.check_unlike(first, (), [["bob-7", "0"]])
        first = ((("bob-7",), DIGITS, OUT), (("a",), (("digits", 5, None),), OUT))
        self.check_unlike(first, (), [["a", "00000"]])

    def test_what_is_left_out_elsewhere(self):
        # Both show x alone of a 0, but not of a; so one word tells.
        first = (((), (("text", "a"),), OUT), ((), (("text", "0"),), ("put", "x")))
        second = (((), (("text", "a"),), ("put", "x")), ((), (("text", "0"),), OUT))
        self.assertEqual(plain_masked(first, [["a", "0"]]), plain_masked(second, [["a", "0"]]))
        self.check_unlike(first, second, [["0"]])

    def test_drawn_by_lots(self):
        draw = drawn(1)
        sizes = []
        for at in range(150):
            first = drawn_view(draw)
            second = drawn_view(draw)
            if at % 3 and first:
                place = draw.randrange(len(first))
                behind, shape, act = first[place]
                rule = draw.choice(((behind, shape, drawn_act(draw)), (behind, drawn_shape(draw), act), (behind[1:], shape, act)))
                second = first[:place] + (rule,) + first[place + 1:]
            log = lots_unlike(first, second)
            self.check_unlike(first, second, log)
            sizes.append(len(log[0]) if log else 0)
        self.assertEqual(set(sizes), {0, 1, 2})

    def test_drawn_by_all_short_words(self):
        draw = drawn(2)
        for _ in range(60):
            first, second = drawn_view(draw), drawn_view(draw)
            log = first_unlike(first, second)
            lines = [[word] for word in words_up_to(2)] if log is None or len(log[0]) == 2 else []
            self.assertEqual(plain_masked(first, lines), plain_masked(second, lines))
            for ahead in aheads_of(names_of(first, second))[1:]:
                for word in words_up_to(1):
                    if plain_masked(first, [[ahead, word]]) != plain_masked(second, [[ahead, word]]):
                        self.assertLessEqual(log_key(log), log_key([[ahead, word]]))


class RulesTest(AlikeChecks):
    def test_views_of_few_rules(self):
        self.check_rules((), [], [], [])
        self.check_rules(act_view(KEEP), [], [0], [])
        self.check_rules(act_view(OUT), [], [], [])
        self.check_rules(act_view(("put", "a"), (("text", "a"),)), [], [0], [])
        self.check_rules(act_view(OUT) * 2, [1], [0, 1], [0])
        self.check_rules(act_view(OUT) * 6, [1, 2, 3, 4, 5], [0, 1, 2, 3, 4, 5], [0, 1, 2, 3, 4])
        self.check_rules(act_view(OUT) + act_view(STARS), [1], [1], [])
        self.check_rules(act_view(OUT, LETTERS) + act_view(STARS, DIGITS), [], [], [0])

    def test_never_done(self):
        view = act_view(STARS, (("letters", 2, 3),)) + act_view(FIRST[1], (("letters", 4, None),)) + act_view(OUT, (("letters", 2, 5),))
        self.check_rules(view, [2], [2], [0])
        view = act_view(STARS, (("any", 1, 2),)) + act_view(OUT, (("any", 3, None),)) + (((), EVERY, KEEP), (("a",), DIGITS, OUT))
        self.check_rules(view, [2, 3], [2, 3], [0, 2])
        view = ((("a", "b"), EVERY, OUT), (("a",), LETTERS, STARS), (("b", "c"), LETTERS, STARS))
        self.check_rules(view, [1], [1], [1])
        view = ((("", "a"), EVERY, OUT), (("",), LETTERS, STARS), ((), EVERY, STARS))
        self.check_rules(view, [1], [1], [1])

    def test_spare_though_done(self):
        view = act_view(FIRST[1], sized(1)) + act_view(FIRST[3], EVERY)
        self.check_rules(view, [], [0], [0])
        view = act_view(FIRST[1], (("any", 1, 2),)) + act_view(FIRST[3], EVERY)
        self.check_rules(view, [], [], [])
        view = act_view(("put", "**"), (("letters", 2, 2),)) + act_view(STARS)
        self.check_rules(view, [], [0], [0])
        view = act_view(STARS) + act_view(("put", "**"), (("letters", 2, 2),))
        self.check_rules(view, [1], [1], [0])
        view = (((), LETTERS, STARS), ((), (("letters", 2, 2),), KEEP), ((), EVERY, STARS))
        self.check_rules(view, [1], [1], [1])
        # The rule behind it would keep the word, one further on would not.
        view = (((), LETTERS, STARS), (("a",), (("letters", 1, 1),), KEEP), ((), EVERY, STARS))
        self.check_rules(view, [1], [1], [1])

    def test_changed_places(self):
        view = ((("a",), EVERY, OUT), (("b",), EVERY, STARS), (("b", "c"), DIGITS, OUT))
        self.check_rules(view, [], [], [0])
        # 0 and 1 do not meet as the first rule is for all these words.
        view = act_view(OUT, LETTERS) + act_view(STARS, (("letters", 1, 2),)) + act_view(KEEP, (("letters", 2, 2),)) + act_view(OUT, DIGITS)
        self.check_rules(view, [1, 2], [1, 2], [1, 2])

    def test_drawn_by_lots(self):
        draw = drawn(3)
        told = [0, 0, 0]
        for _ in range(70):
            view = drawn_view(draw)
            if draw.random() < 0.5:
                view = tuple((behind, draw.choice((shape, EVERY, LETTERS, sized(2))), draw.choice((act, STARS, FIRST[2], ("put", "**"))))
                             for behind, shape, act in view)
            places = range(len(view))
            done = [done_lots(view, ahead) for ahead in aheads_of(names_of(view))]
            idle = [at for at in places if all(lots[at] == none_lot() for lots in done)]
            spare = [at for at in places if lots_unlike(view, view[:at] + view[at + 1:]) is None]
            swapped = [view[:at] + (view[at + 1], view[at]) + view[at + 2:] for at in places[:-1]]
            change = [at for at, other in enumerate(swapped) if lots_unlike(view, other) is None]
            self.check_rules(view, idle, spare, change)
            told = [many + (0 < len(found) < len(view)) for many, found in zip(told, (idle, spare, change))]
        self.assertGreater(min(told), 10)

    def test_what_is_returned_is_new(self):
        view = act_view(OUT) * 2
        for _ in range(2):
            found = [first_unlike(view, ()), idle_rules(view), spare_rules(view), changeable(view)]
            self.assertEqual(found, [[["-"]], [1], [0, 1], [0]])
            found[0][0].append("x")
            for part in found:
                part.append(7)


if __name__ == "__main__":
    unittest.main()
