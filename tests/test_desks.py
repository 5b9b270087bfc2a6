"""Promises 2, 6, 8 and 9: lines that are masked at a desk, each by the views of its time."""

import unittest

from blackbars import desks
from blackbars.cases import Case
from blackbars.desks import Desk
from blackbars.errors import BadCase, BadLog, BadNumber, BadPlace, BadView, NothingToUndo, TooPlain
from blackbars.hidden import hidden, words_for
from blackbars.lots import Lot, every_lot, shape_lot, word_lot
from tests.helper import (
    DIGITS, EVERY, LETTERS, Checks, any_values, drawn, drawn_aheads, drawn_case, drawn_view, drawn_word,
    plain_is_secret, plain_masked, plain_shown, plain_together, secrets_up_to, short_secret,
)
from tests.test_cases import NO_PLACES
from tests.test_fewest import NO_NUMBERS
from tests.test_views import NO_VIEWS

EXAMPLE = """
    >>> from blackbars.cases import Case
    >>> from blackbars.desks import Desk
    >>> letters = (('letters', 1, 3),)
    >>> case = Case([((('user-',), letters, ('first', 1)),)], [(('user-',), letters)])
    >>> desk = Desk(case)
    >>> desk.add(['user-', 'cat'])
    1
    >>> desk.change([((('user-',), letters, ('last', 1)),)])
    >>> desk.add(['user-', 'cat'])
    2
    >>> desk.shown_to(0)
    [['user-', 'c*'], ['user-', '*t']]
    >>> [desk.hidden(1, 1, [0]), desk.same([(1, 1), (2, 1)]).count()]
    [703, 27]
"""
OUT = ("out",)
SECRETS = [(("u",), (("letters", 1, 3),)), (("id-",), (("digits", 2, 2),))]
FIRST = (((), (("letters", 1, 3),), ("first", 1)), (("id-",), DIGITS, ("last", 1)))
LAST = (((), (("letters", 1, 3),), ("last", 1)), (("id-",), DIGITS, ("stars",)))
KEEP = ()
NO_LINES = [
    (), ("a",), [("a",)], [["a"]], "a", "ab", [""], ["a", ""], ["A"], ["a*"], ["a", None], [1], None, 0, 1, True, {}, {"a": 1}, ["a", ["b"]],
]
NO_SPOTS = [
    (1, 0), (1, 2), (1, 3), (1, -1), (1, -2), (0, 1), (-1, 1), (-2, 1), (2, 1), (3, 0), (3, 4), (4, 1), (10 ** 59, 1), (True, 1), (1, True),
    (3, False), (1.0, 1), ("1", 1), (1, "1"), (None, 1), (1, None), ([1], 1), (1, [1]), (1, (1,)), ({}, {}), (1, 10 ** 59),
]


def new_desk(floor=1, views=(FIRST, LAST)):
    """Return a desk with three lines; the spots of secrets are (1, 1), (3, 1) and (3, 3)."""
    desk = Desk(Case(views, SECRETS), floor=floor)
    for line in (["u", "abc", "7"], [], ["u", "bob", "id-", "42"]):
        desk.add(line)
    return desk


def state_of(desk, many=2):
    return [desk.lines(), [desk.shown_to(place) for place in range(many)]]


class ExampleTest(Checks):
    def test_example(self):
        self.check_example(EXAMPLE)

    def test_defined_here(self):
        methods = ["add", "change", "lines", "shown_to", "hidden", "same", "undo"]
        self.check_defined(desks, [], [("Desk", methods)])


class MadeTest(Checks):
    def test_floors(self):
        case = Case([FIRST], SECRETS)
        for floor in (1, 2, 999, 1000):
            self.assertEqual(Desk(case, floor=floor).lines(), [])
            self.assertEqual(Desk(case=case, floor=floor).shown_to(0), [])
        for value in NO_NUMBERS:
            with self.assertRaises(BadNumber) as caught:
                Desk(case, floor=value)
            self.assertIs(caught.exception.value, value)
        with self.assertRaises(TypeError):
            Desk(case, 5)

    def test_the_case_may_be_used_on(self):
        case = Case([FIRST, LAST], SECRETS)
        first, second = Desk(case), Desk(case)
        first.add(["u", "abc"])
        first.change([LAST, FIRST])
        first.add(["u", "abc"])
        self.assertEqual(second.lines(), [])
        self.assertEqual(case.views, (FIRST, LAST))
        self.assertEqual(hidden(case, [["u", "abc"]], (0, 1), [0]), 703)
        self.assertEqual(second.add(["u", "abc"]), 1)
        self.assertEqual(state_of(second), [[(1, ["u", "abc"])], [[["u*", "a*"]], [["*u", "*c"]]]])
        self.assertEqual(state_of(first)[1], [[["u*", "a*"], ["*u", "*c"]], [["*u", "*c"], ["u*", "a*"]]])


class AddTest(Checks):
    def test_numbers_and_lines(self):
        desk = new_desk()
        self.assertEqual(desk.lines(), [(1, ["u", "abc", "7"]), (2, []), (3, ["u", "bob", "id-", "42"])])
        self.assertEqual(desk.shown_to(0), [["u*", "a*", "7"], [], ["u*", "b*", "id-", "*2"]])
        self.assertEqual(desk.shown_to(place=1), [["*u", "*c", "7"], [], ["*u", "*b", "id-", "**"]])
        self.assertEqual(self.call(Desk(Case([FIRST], SECRETS)).lines), [])
        self.assertEqual(desk.add(line=["x"]), 4)

    def test_what_is_handed_in_and_out_is_copied(self):
        desk = Desk(Case([FIRST], SECRETS))
        line = ["u", "abc"]
        desk.add(line)
        line.append("x")
        for _ in range(2):
            lines, told = desk.lines(), desk.shown_to(0)
            self.assertEqual((lines, told), ([(1, ["u", "abc"])], [["u*", "a*"]]))
            lines[0][1].append("x")
            lines.append(7)
            told[0].append("x")
            told.append(7)
        self.assertEqual(desk.hidden(1, 1, [0]), 703)

    def test_no_lines(self):
        for value in [*NO_LINES, *[value for value in any_values() if value != [] or not isinstance(value, list)]]:
            desk = new_desk()
            for call in (lambda: desk.add(value), lambda: desk.add(line=value)):
                with self.assertRaises(BadLog) as caught:
                    call()
                self.assertIs(caught.exception.value, value)
            self.assertEqual(desk.add([]), 4)

    def test_left_out_words(self):
        desk = Desk(Case([(((), (("text", "bob"),), OUT), (("bob",), DIGITS, ("stars",)))], [(("id-",), DIGITS)]), floor=5)
        self.assertEqual(desk.add(["bob", "77", "7", "bob"]), 1)
        self.assertEqual(desk.add(["bob"]), 2)
        self.assertEqual(desk.shown_to(0), [["**", "7"], []])


class FloorTest(Checks):
    def check_plain(self, desk, line, pair):
        before = state_of(desk, 1)
        for call in (lambda: desk.add(line), lambda: desk.add(line=line)):
            with self.assertRaises(TooPlain) as caught:
                call()
            self.assertEqual(caught.exception.pair, pair)
            self.assertIsInstance(caught.exception.pair, tuple)
        self.assertEqual(state_of(desk, 1), before)

    def test_at_the_number(self):
        for floor in (1, 9, 10, 11, 100, 101, 1000):
            case = Case([FIRST], [(("id-",), (("digits", 2, 2),))])
            desk = Desk(case, floor=floor)
            if floor <= 10:
                self.assertEqual(desk.add(["id-", "42"]), 1)
            else:
                self.check_plain(desk, ["id-", "42"], (1, 10))
            self.assertEqual(desk.add(["id", "42", "bob"]), 2 if floor <= 10 else 1)

    def test_the_first_secret_that_is_too_plain(self):
        desk = Desk(Case([FIRST, LAST], SECRETS), floor=11)
        self.check_plain(desk, ["u", "abc", "id-", "42", "id-", "43"], (3, 10))
        self.check_plain(desk, ["id-", "42", "u", "abc"], (1, 10))
        self.assertEqual(desk.add(["u", "abc"]), 1)
        self.check_plain(desk, ["7", "id-", "00"], (2, 10))
        self.assertEqual(desk.add(["id-", "7", "u", "u"]), 2)
        with self.assertRaises(NothingToUndo):
            desk.undo(3)

    def test_all_views_together(self):
        for views, many in ((FIRST, LAST), 27), ((FIRST, FIRST), 703), ((LAST, KEEP), 1), ((KEEP, KEEP), 1):
            desk = Desk(Case(views, SECRETS), floor=many)
            self.assertEqual(desk.add(["u", "abc"]), 1)
            if many > 1:
                self.check_plain(Desk(Case(views, SECRETS), floor=min(many + 1, 1000)), ["u", "abc"], (1, many))
            self.assertEqual(desk.hidden(1, 1, [0, 1]), many)

    def test_endless_is_enough(self):
        desk = Desk(Case([(((), EVERY, ("put", "x")),)], [(("u",), LETTERS)]), floor=1000)
        self.assertEqual(desk.add(["u", "abc"]), 1)
        self.assertIsNone(desk.hidden(1, 1, [0]))

    def test_the_word_behind(self):
        view = ((("u",), EVERY, ("put", "x")), (("bob",), DIGITS, ("put", "y")))
        desk = Desk(Case([view], [(("u",), LETTERS)]), floor=2)
        self.assertEqual(desk.add(["u", "bob"]), 1)
        self.assertEqual(desk.add(["u", "bob", "x"]), 2)
        self.check_plain(desk, ["u", "bob", "7"], (1, 1))
        self.assertEqual(desk.add(["u", "al", "7"]), 3)

    def test_views_of_the_time(self):
        desk = Desk(Case([FIRST], SECRETS), floor=11)
        self.check_plain(desk, ["id-", "42"], (1, 10))
        desk.change([LAST])
        self.assertEqual(desk.add(["id-", "42"]), 1)
        desk.change([KEEP])
        self.check_plain(desk, ["id-", "42"], (1, 1))
        desk.undo(1)
        self.assertEqual(desk.add(["id-", "42"]), 2)


class ChangeTest(Checks):
    def test_later_lines_alone(self):
        desk = new_desk()
        before = state_of(desk)
        self.assertIsNone(desk.change([KEEP, FIRST]))
        self.assertEqual(state_of(desk), before)
        self.assertEqual(desk.add(["u", "abc"]), 4)
        desk.change(views=(FIRST, LAST))
        self.assertEqual(desk.add(["u", "abc"]), 5)
        self.assertEqual([desk.shown_to(0)[3:], desk.shown_to(1)[3:]], [[["u", "abc"], ["u*", "a*"]], [["u*", "a*"], ["*u", "*c"]]])
        self.assertEqual([desk.hidden(4, 1, [0]), desk.hidden(4, 1, [1]), desk.hidden(5, 1, [0]), desk.hidden(5, 1, [])], [1, 703, 703, 18277])

    def test_views_may_be_changed_after(self):
        views = [KEEP, KEEP]
        desk = new_desk()
        desk.change(views)
        views[0] = FIRST
        desk.add(["u", "abc"])
        self.assertEqual(desk.shown_to(0)[3], ["u", "abc"])

    def test_bad_views(self):
        for value in NO_VIEWS:
            for views in ([value], [FIRST, value], (FIRST, LAST, value, None), [value] * 5):
                desk = new_desk()
                for call in (lambda: desk.change(views), lambda: desk.change(views=views)):
                    with self.assertRaises(BadView) as caught:
                        call()
                    self.assertIs(caught.exception.value, value)
                desk.add(["u", "abc"])
                self.assertEqual(desk.shown_to(1)[3], ["*u", "*c"])
                desk.undo(4)

    def test_bad_cases(self):
        bad = (("u", "zz"), LETTERS, OUT)
        for views in ([], [FIRST], (FIRST,), [FIRST] * 3, [FIRST] * 4, (FIRST,) * 7, [FIRST, (bad,)], [(bad,)], [(bad,)] * 3):
            desk = new_desk()
            for call in (lambda: desk.change(views), lambda: desk.change(views=views)):
                with self.assertRaises(BadCase) as caught:
                    call()
                self.assertEqual(caught.exception.value, (tuple(views), tuple(SECRETS)))
            desk.add(["u", "abc"])
            self.assertEqual(desk.shown_to(0)[3], ["u*", "a*"])
            desk.undo(4)
            self.assertEqual(desk.lines(), [])

    def test_behinds_that_may_be_secret(self):
        # A word of three letters may be secret; one of four may not.
        desk = new_desk()
        desk.change([((("zzzz",), LETTERS, OUT),), KEEP])
        with self.assertRaises(BadCase):
            desk.change([((("zzz",), LETTERS, OUT),), KEEP])


class HiddenTest(Checks):
    def test_hidden(self):
        desk = new_desk()
        rows = [((1, 1, [0]), 703), ((1, 1, [1]), 703), ((1, 1, [0, 1]), 27), ((1, 1, [1, 0, 0]), 27), ((1, 1, []), 18277), ((3, 3, [0]), 10),
                ((3, 3, (1,)), 100), ((3, 1, [0, 1]), 28)]
        for (number, word, places), many in rows:
            self.assertEqual(self.call(desk.hidden, number=number, word=word, places=places), many)

    def test_no_secrets(self):
        desk = new_desk()
        for number, word in NO_SPOTS:
            for places in ([0], [7, None], []):
                for call in (lambda: desk.hidden(number, word, places), lambda: desk.hidden(number=number, word=word, places=places)):
                    with self.assertRaises(BadPlace) as caught:
                        call()
                    value = caught.exception.value
                    self.assertIsInstance(value, tuple)
                    self.assertIs(value[0], number)
                    self.assertIs(value[1], word)
        for value in any_values():
            for number, word in ((value, 1), (1, value)):
                if value != 1 or isinstance(value, bool):
                    with self.assertRaises(BadPlace) as caught:
                        desk.hidden(number, word, [0])
                    self.assertEqual(repr(caught.exception.value), repr((number, word)))

    def test_no_places(self):
        desk = new_desk()
        for value in NO_PLACES:
            for places in ([value], [0, 1, value, None], (value, 7)):
                self.check_raised(BadPlace, value, desk.hidden, number=1, word=1, places=places)
            self.check_raised(BadPlace, value, desk.shown_to, place=value)


class SameTest(Checks):
    def test_same(self):
        desk = new_desk()
        case = Case([FIRST, LAST], SECRETS)
        abc = words_for(case, [["u", "abc"]], (0, 1), [0, 1])
        self.assertIsInstance(desk.same([]), Lot)
        self.assertIs(desk.same([]) == every_lot(), True)
        self.assertIs(desk.same(()) == every_lot(), True)
        self.assertIs(self.call(desk.same, spots=[(1, 1)]) == abc, True)
        self.assertIs(desk.same(((1, 1), (1, 1))) == abc, True)
        self.assertEqual(desk.same([(1, 1), (3, 1)]).count(), 0)
        self.assertEqual(desk.same([(3, 3)]).words(20), [f"{n}2" for n in range(10)])
        self.assertEqual(desk.same([(3, 3), (1, 1)]).count(), 0)
        desk.change([LAST, KEEP])
        desk.add(["x", "u", "axc"])
        self.assertEqual(desk.same([(4, 2)]), word_lot("axc"))
        self.assertEqual(desk.same([(1, 1), (4, 2)]), word_lot("axc"))
        desk.undo(1)
        desk.change([LAST, LAST])
        desk.add(["u", "xyc"])
        self.assertEqual(desk.same([(4, 1)]).count(), 703)
        self.assertEqual(desk.same([(4, 1), (1, 1)]), abc)

    def test_endless(self):
        desk = Desk(Case([(((), EVERY, ("put", "x")),)], [(("u",), LETTERS)]))
        desk.add(["u", "a", "u", "b"])
        self.assertEqual(desk.same([(1, 1), (1, 3)]), shape_lot(LETTERS) - word_lot("u"))

    def test_no_spots(self):
        desk = new_desk()
        for value in [*NO_SPOTS, *any_values(), [1, 1], (1,), (1, 1, 1), "11", ((1, 1),), [(1, 1)]]:
            for spots in ([value], [(1, 1), value, (0, 0)], (value, None)):
                self.check_raised(BadPlace, value, desk.same, spots=spots)


class UndoTest(Checks):
    def test_deeds_of_both_kinds(self):
        desk = new_desk()
        desk.change([KEEP, KEEP])
        desk.add(["u", "abc"])
        desk.change([LAST, FIRST])
        self.assertIsNone(desk.undo(0))
        self.assertEqual(len(desk.lines()), 4)
        self.assertIsNone(desk.undo(many=1))
        self.assertEqual(desk.add(["u", "abc"]), 5)
        self.assertEqual(desk.shown_to(0)[4], ["u", "abc"])
        desk.undo(3)
        self.assertEqual(len(desk.lines()), 3)
        self.assertEqual(desk.add(["u", "abd"]), 4)
        self.assertEqual(desk.shown_to(1)[3], ["*u", "*d"])
        desk.undo(4)
        self.assertEqual(state_of(desk), [[], [[], []]])
        with self.assertRaises(NothingToUndo):
            desk.undo(1)

    def test_nothing_to_undo(self):
        for value in [*any_values(), 4, -1, "1", [1], (1,), True, False]:
            if isinstance(value, int) and not isinstance(value, bool) and 0 <= value <= 3:
                continue
            desk = new_desk()
            for call in (lambda: desk.undo(value), lambda: desk.undo(many=value)):
                with self.assertRaises(NothingToUndo) as caught:
                    call()
                self.assertIs(caught.exception.many, value)
            self.assertEqual(len(desk.lines()), 3)

    def test_what_is_undone_has_no_spots(self):
        desk = new_desk()
        desk.undo(1)
        for call in (lambda: desk.hidden(3, 1, [0]), lambda: desk.same([(3, 1)])):
            with self.assertRaises(BadPlace) as caught:
                call()
            self.assertEqual(caught.exception.value, (3, 1))
        self.assertEqual(desk.hidden(1, 1, [0]), 703)


class DrawnTest(Checks):
    def plain_many(self, case, line, at):
        """Return among how many words a short secret is hidden for all views, by a plain reading."""
        ahead = line[at - 1] if at else ""

        def look(word):
            told = [[plain_shown(view, ahead, word)] for view in case.views]
            if at + 1 < len(line):
                told.append([plain_shown(view, word, line[at + 1]) for view in case.views])
            return told

        return sum(look(word) == look(line[at]) for word in self.words(case, ahead))

    def words(self, case, ahead):
        key = (case.secrets, ahead)
        if key not in self.known:
            self.known[key] = secrets_up_to(case, ahead, 3)
        return self.known[key]

    def drawn_line(self, draw, case):
        names = [name for name in drawn_aheads(case) if name]
        line = [draw.choice([drawn_word(draw, 2), *names, *names]) for _ in range(draw.randint(0, 4))]
        for at in range(len(line)):
            ahead = line[at - 1] if at else ""
            if ahead in names and draw.random() < 0.6:
                line[at] = draw.choice(self.words(case, ahead)[:200] or ["a"])
        return line

    def test_against_a_plain_desk(self):
        self.known = {}
        draw = drawn(1)
        refused = 0
        for _ in range(25):
            case = drawn_case(draw, short_secret)
            floor = draw.choice((1, 2, 3, 11))
            desk, rows, deeds = Desk(case, floor=floor), [], []
            for _ in range(12):
                kind = draw.choice(("add", "add", "add", "change", "undo"))
                if kind == "undo":
                    many = draw.randint(0, min(2, len(deeds)))
                    desk.undo(many)
                    for _ in range(many):
                        deed = deeds.pop()
                        case = deed or case
                        rows = rows if deed else rows[:-1]
                elif kind == "change":
                    views = [drawn_view(draw) for _ in case.views]
                    if plain_together(views, case.secrets):
                        desk.change(views)
                        deeds.append(case)
                        case = Case(views, case.secrets)
                else:
                    line = self.drawn_line(draw, case)
                    secrets = [at for at, word in enumerate(line) if plain_is_secret(case.secrets, line[at - 1] if at else "", word)]
                    plain = [(at, self.plain_many(case, line, at)) for at in secrets]
                    plain = [pair for pair in plain if pair[1] < floor]
                    if plain:
                        with self.assertRaises(TooPlain) as caught:
                            desk.add(line)
                        self.assertEqual(caught.exception.pair, plain[0])
                        refused += 1
                    else:
                        self.assertEqual(desk.add(line), len(rows) + 1)
                        rows.append((case, line, secrets))
                        deeds.append(None)
                self.check_desk(desk, rows, len(case.views))
        self.assertGreater(refused, 5)

    def check_desk(self, desk, rows, many):
        self.assertEqual(desk.lines(), [(at + 1, line) for at, (_, line, _) in enumerate(rows)])
        for place in range(many):
            self.assertEqual(desk.shown_to(place), [plain_masked(case.views[place], [line])[0] for case, line, _ in rows])
        spots = [(number + 1, at) for number, (_, _, secrets) in enumerate(rows) for at in secrets]
        for number, at in spots:
            case, line, _ = rows[number - 1]
            self.assertEqual(desk.hidden(number, at, list(range(many))), self.plain_many(case, line, at))
            self.assertEqual(desk.hidden(number, at, [0]), hidden(case, [line], (0, at), [0]))
        for some in (spots[:1], spots[:2], spots[-2:]):
            expected = every_lot()
            for number, at in some:
                case, line, _ = rows[number - 1]
                expected = expected & words_for(case, [line], (0, at), list(range(many)))
            self.assertIs(desk.same(some) == expected, True)


if __name__ == "__main__":
    unittest.main()
