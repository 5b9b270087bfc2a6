"""Promises 2 and 11: sightings of an unknown word, and the words that go with them."""

import unittest

from blackbars import trails
from blackbars.errors import BadCase, BadSighting, BadView, NothingToUndo
from blackbars.lots import Lot, begin_lot, end_lot, every_lot, none_lot, shape_lot, size_lot, word_lot
from blackbars.trails import Trail, is_sighting
from tests.helper import (
    DIGITS, EVERY, LETTERS, Checks, any_values, drawn, drawn_view, drawn_word, names_of, nested, plain_shown, words_up_to,
)
from tests.test_views import NO_VIEWS

EXAMPLE = """
    >>> from blackbars.trails import Trail
    >>> any_word = (('any', 1, 3),)
    >>> trail = Trail([(((), any_word, ('first', 1)),), (((), any_word, ('last', 1)),)])
    >>> trail.see((0, '', None, ['c*']))
    >>> trail.see((1, 'user-', None, ['*t']))
    >>> trail.words().count()
    38
    >>> [trail.known(), trail.spare()]
    [None, []]
"""
OUT = ("out",)
STARS = ("stars",)
FIRST = (((), EVERY, ("first", 1)),)
LAST = (((), EVERY, ("last", 1)),)
SIGHTING = (0, "a", "b", ["a*", "b*"])
NO_SIGHTINGS = [
    *any_values(), list(SIGHTING), SIGHTING[:3], (*SIGHTING, None), (True, "a", "b", []), (False, "", None, []), (-1, "", None, []),
    (None, "", None, []), ("0", "", None, []), (0, None, None, []), (0, "A", None, []), (0, "a*", None, []), (0, ["a"], None, []),
    (0, "", "", []), (0, "", "a*", []), (0, "", 1, []), (0, "", False, []), (0, "", None, ()), (0, "", None, ("a",)), (0, "", None, None),
    (0, "", None, "ab"), (0, "", None, ["a", "b", "c"]), (0, "", None, [""]), (0, "", None, ["a", ""]), (0, "", None, ["A"]),
    (0, "", None, [None]), (0, "", None, [["a"]]), (0, "", None, {}), (0, "", None, nested(99, list)), (nested(90, tuple), "", None, []),
    (0, "", nested(90, dict), []), (0, " ", None, []), (0, "", None, ["a b"]), (0, True, None, []), (0.0, "", None, []),
]


def plain_goes(views, sighting, word):
    """Return whether a word goes with a sighting, as [11] and [9] say."""
    place, ahead, behind, look = sighting
    told = plain_shown(views[place], ahead, word)
    return look == (told if behind is None else told + plain_shown(views[place], word, behind))


def seen(views, sightings):
    trail = Trail(views)
    for sighting in sightings:
        trail.see(sighting)
    return trail


def drawn_sighting(draw, views, word):
    """Return a drawn sighting, mostly one with which a word goes."""
    place = draw.randrange(len(views))
    ahead = draw.choice(("", "a", "b", "0", "zz", drawn_word(draw)))
    behind = draw.choice((None, None, "a", "0", "ab", drawn_word(draw)))
    look = plain_shown(views[place], ahead, word) + (plain_shown(views[place], word, behind) if behind else [])
    if draw.random() < 0.1:
        look = draw.choice(([], ["x"], ["a*"], ["*"], ["a", "b"], look[:1], look[::-1]))
    return place, ahead, behind, look


class TrailChecks(Checks):
    def check_trail(self, views, sightings, lot, spare):
        """Check what a trail tells: the lot of the words, and which sightings are spare."""
        trail = seen(views, sightings)
        with self.subTest(views=views, sightings=sightings):
            self.assertEqual(trail.sightings, sightings)
            self.assertIsInstance(trail.words(), Lot)
            self.assertIs(trail.words() == lot, True)
            self.assertEqual(trail.known(), lot.least() if lot.count() == 1 else None)
            self.assertIs(trail.is_possible(), lot.least() is not None)
            self.assertEqual(trail.spare(), spare)
            self.assertEqual(trail.sightings, sightings)


class ExampleTest(Checks):
    def test_example(self):
        self.check_example(EXAMPLE)

    def test_defined_here(self):
        methods = ["see", "sightings", "words", "known", "is_possible", "spare", "undo"]
        self.check_defined(trails, ["is_sighting"], [("Trail", methods)])
        self.assertIsInstance(vars(Trail)["sightings"], property)


class SightingTest(Checks):
    def test_sightings(self):
        for value in (SIGHTING, (0, "", None, []), (10 ** 59, "a" * 300, "-", ["*"]), (7, "user-", None, ["a", "***"]), (3, "", "a", ["a*b"])):
            self.check_judged(is_sighting, value, True)

    def test_others(self):
        for value in NO_SIGHTINGS:
            self.check_judged(is_sighting, value, False)


class MadeTest(TrailChecks):
    def test_one_to_four_views(self):
        for many in (1, 2, 3, 4):
            for views in ([FIRST] * many, (FIRST,) * many):
                trail = Trail(views)
                self.assertIsNone(trail.see((many - 1, "", None, ["a*"])))
                self.assertEqual(Trail(views=views).sightings, [])
        for many in (0, 5, 6):
            for views in ([FIRST] * many, (FIRST,) * many):
                for make in (lambda: Trail(views), lambda: Trail(views=views)):
                    with self.assertRaises(BadCase) as caught:
                        make()
                    self.assertEqual(caught.exception.value, (FIRST,) * many)

    def test_bad_views(self):
        for value in NO_VIEWS:
            for views in ([value], [FIRST, value], (FIRST, value, 7), [value] * 9, [FIRST] * 6 + [value]):
                self.check_raised(BadView, value, Trail, views=views)

    def test_views_may_be_changed_after(self):
        views = [FIRST, LAST]
        trail = Trail(views)
        views.clear()
        trail.see((1, "", None, ["*a"]))
        self.assertEqual(trail.words(), end_lot("a"))

    def test_bad_sightings(self):
        for value in [*NO_SIGHTINGS, (2, "", None, []), (10 ** 59, "", None, [])]:
            trail = seen([FIRST, LAST], [(0, "", None, ["c*"])])
            self.check_raised(BadSighting, value, trail.see, sighting=value)
            self.assertEqual((trail.sightings, trail.words()), ([(0, "", None, ["c*"])], begin_lot("c")))

    def test_what_is_seen_and_told_is_copied(self):
        look = ["a*"]
        trail = Trail([FIRST])
        trail.see(sighting=(0, "", None, look))
        look.append("x")
        for _ in range(2):
            told = trail.sightings
            self.assertEqual(told, [(0, "", None, ["a*"])])
            told[0][3].append("x")
            told.append(None)
            spare = trail.spare()
            spare.append(7)
        self.assertEqual((trail.words(), trail.spare()), (begin_lot("a"), []))


class WordsTest(TrailChecks):
    def test_nothing_seen(self):
        self.check_trail([FIRST], [], every_lot(), [])

    def test_begins_ends_and_sizes(self):
        views = [FIRST, LAST, (((), EVERY, STARS),), ()]
        rows = [(0, "", None, ["c*"]), (1, "u", None, ["*t"]), (2, "", None, ["***"])]
        self.check_trail(views, rows[:1], begin_lot("c"), [])
        self.check_trail(views, rows[:2], begin_lot("c") & end_lot("t"), [])
        self.check_trail(views, rows, begin_lot("c") & end_lot("t") & size_lot(3), [])
        rows.append((3, "x", None, ["cat"]))
        self.check_trail(views, rows, word_lot("cat"), [0, 1, 2])
        self.check_trail(views, rows[::-1], word_lot("cat"), [1, 2, 3])
        self.check_trail(views, rows[3:], word_lot("cat"), [])
        self.assertEqual(seen(views, rows).known(), "cat")

    def test_looks_of_none_one_and_two(self):
        view = ((("bob",), DIGITS, OUT), ((), LETTERS, ("put", "x")), ((), DIGITS, OUT))
        letters, digits = shape_lot(LETTERS), shape_lot(DIGITS)
        self.check_trail([view], [(0, "", None, [])], digits, [])
        self.check_trail([view], [(0, "", None, ["x"])], letters | word_lot("x"), [])
        self.check_trail([view], [(0, "", "a", ["x", "x"])], letters, [])
        self.check_trail([view], [(0, "", "a", ["x"])], digits, [])
        self.check_trail([view], [(0, "", "7", ["x"])], letters, [])
        self.check_trail([view], [(0, "", "7", [])], digits, [])
        self.check_trail([view], [(0, "", None, ["x", "x"])], none_lot(), [])
        self.check_trail([view], [(0, "", "a", [])], none_lot(), [])
        self.check_trail([view], [(0, "", "a", ["a-", "x"])], word_lot("a-"), [])
        self.check_trail([()], [(0, "", "7", ["a", "7"])], word_lot("a"), [])
        self.check_trail([()], [(0, "", "7", ["a"])], none_lot(), [])

    def test_what_the_word_behind_tells(self):
        view = ((("al", "bob"), EVERY, ("put", "y")), ((), LETTERS, STARS))
        self.check_trail([view], [(0, "", "7", ["***", "7"])], size_lot(3) & shape_lot(LETTERS) - word_lot("bob"), [])
        self.check_trail([view], [(0, "", "7", ["***", "y"])], word_lot("bob"), [])
        self.check_trail([view], [(0, "", "7", ["**", "y"])], word_lot("al"), [])
        self.check_trail([view], [(0, "", "7", ["*", "y"])], none_lot(), [])
        self.check_trail([view], [(0, "bob", "7", ["y", "y"])], word_lot("bob") | word_lot("al"), [])
        self.check_trail([view], [(0, "bob", "7", ["y", "7"])], every_lot() - word_lot("bob") - word_lot("al"), [])
        # Behind the one the word behind is left out; of the other nothing is shown itself.
        view = ((("a",), DIGITS, OUT), ((), (("text", "b"),), OUT))
        self.check_trail([view], [(0, "", "7", ["a"])], word_lot("a"), [])
        self.check_trail([view], [(0, "", "7", ["7"])], word_lot("b"), [])
        view = ((("a",), DIGITS, OUT), ((), (("text", "b"),), OUT), ((), LETTERS, ("put", "7")))
        self.check_trail([view], [(0, "", "7", ["7"])], word_lot("a") | word_lot("b"), [])

    def test_the_begin_of_a_line(self):
        view = ((("",), LETTERS, OUT), (("u",), LETTERS, STARS))
        self.check_trail([view], [(0, "", None, [])], shape_lot(LETTERS), [])
        self.check_trail([view], [(0, "u", None, [])], none_lot(), [])
        self.check_trail([view], [(0, "u", None, ["**"])], shape_lot((("letters", 2, 2),)), [])

    def test_contradictions(self):
        rows = [(0, "", None, ["a*"]), (0, "", None, ["b*"]), (0, "", None, ["a*"])]
        self.check_trail([FIRST], rows[:2], none_lot(), [])
        self.check_trail([FIRST], rows, none_lot(), [0, 2])
        self.check_trail([FIRST], rows + rows[1:2], none_lot(), [0, 1, 2, 3])
        self.check_trail([FIRST], [(0, "", None, [])], none_lot(), [])
        self.check_trail([FIRST], [(0, "", None, []), (0, "", None, ["a*", "b*"])], none_lot(), [0, 1])

    def test_each_one_by_itself_is_spare(self):
        row = (0, "", None, ["a*"])
        self.check_trail([FIRST, LAST], [row, row], begin_lot("a"), [0, 1])
        self.check_trail([FIRST, LAST], [row, (1, "", None, ["*b"]), row], begin_lot("a") & end_lot("b"), [0, 2])
        view = (((), EVERY, ("put", "x")),)
        self.check_trail([view], [(0, "", None, ["x"])], every_lot(), [0])
        self.check_trail([view], [(0, "", None, ["x"])] * 5, every_lot(), [0, 1, 2, 3, 4])

    def test_long_words_and_many_sightings(self):
        long = "ab-0" * 50
        self.check_trail([(), FIRST], [(0, long, None, [long]), (1, "", long, ["a*", "a*"])], word_lot(long), [1])
        self.check_trail([(((), EVERY, STARS),)], [(0, "", None, ["*" * 200])], size_lot(200), [])
        self.check_trail([FIRST, LAST], [(at % 2, "", None, [["a*"], ["*b"]][at % 2]) for at in range(60)],
                         begin_lot("a") & end_lot("b"), list(range(60)))

    def test_drawn(self):
        draw = drawn(1)
        possible, known = 0, 0
        for _ in range(120):
            views = [drawn_view(draw) for _ in range(draw.randint(1, 4))]
            names = [name for name in names_of(*views) if len(name) < 3]
            word = draw.choice(names + [drawn_word(draw)])
            rows = [drawn_sighting(draw, views, word) for _ in range(draw.randint(0, 5))]
            trail = seen(views, rows)
            lot = trail.words()
            expected = [word for word in words_up_to(2) if all(plain_goes(views, row, word) for row in rows)]
            self.assertEqual([word for word in words_up_to(2) if word in lot], expected, (views, rows))
            self.assertEqual(lot.count_of(1) + lot.count_of(2), len(expected))
            for _ in range(40):
                word = drawn_word(draw, 6)
                self.assertEqual(word in lot, all(plain_goes(views, row, word) for row in rows))
            self.assertEqual(trail.is_possible(), lot.count() != 0)
            self.assertEqual(trail.known(), lot.least() if len(lot.words(2)) == 1 else None)
            others = [seen(views, rows[:at] + rows[at + 1:]).words() for at in range(len(rows))]
            self.assertEqual(trail.spare(), [at for at, other in enumerate(others) if other == lot])
            possible += trail.is_possible()
            known += trail.known() is not None
        self.assertGreater(min(possible, 120 - possible, known), 5)


class UndoTest(TrailChecks):
    def test_undo(self):
        rows = [(0, "", None, ["a*"]), (1, "", None, ["*b"]), (0, "x", "7", ["a*", "7*"])]
        for asked in (False, True):
            for many in range(4):
                trail = seen([FIRST, LAST], rows)
                if asked:
                    trail.words()
                self.assertIsNone(trail.undo(many=many) if many % 2 else trail.undo(many))
                rest = seen([FIRST, LAST], rows[:3 - many])
                self.assertEqual((trail.sightings, trail.words(), trail.spare()), (rest.sightings, rest.words(), rest.spare()))
                trail.see((1, "", None, ["*c"]))
                self.assertEqual(trail.sightings, [*rows[:3 - many], (1, "", None, ["*c"])])
                self.assertEqual(trail.is_possible(), many > 1)
                trail.undo(len(trail.sightings))
                self.assertEqual((trail.sightings, trail.words()), ([], every_lot()))

    def test_nothing_to_undo(self):
        for value in [*any_values(), 3, "1", [1], (1,), True, False, -1]:
            trail = seen([FIRST], [(0, "", None, ["a*"]), (0, "", None, ["a*"])])
            if value in (0, 1, 2) and not isinstance(value, bool):
                continue
            for call in (lambda: trail.undo(value), lambda: trail.undo(many=value)):
                with self.assertRaises(NothingToUndo) as caught:
                    call()
                self.assertIs(caught.exception.many, value)
            self.assertEqual((len(trail.sightings), trail.words()), (2, begin_lot("a")))
        with self.assertRaises(NothingToUndo):
            Trail([FIRST]).undo(1)
        self.assertIsNone(Trail([FIRST]).undo(0))

    def test_trails_share_nothing(self):
        first, second = Trail([FIRST]), Trail([FIRST])
        first.see((0, "", None, ["a*"]))
        self.assertEqual((second.sightings, second.words()), ([], every_lot()))

    def test_drawn(self):
        draw = drawn(2)
        for _ in range(40):
            views = [drawn_view(draw) for _ in range(2)]
            word, rows, trail = drawn_word(draw), [], Trail(views)
            for _ in range(12):
                if draw.random() < 0.3:
                    many = draw.randint(0, len(rows))
                    trail.undo(many)
                    rows = rows[:len(rows) - many]
                else:
                    rows.append(drawn_sighting(draw, views, word))
                    trail.see(rows[-1])
                if draw.random() < 0.4:
                    fresh = seen(views, rows)
                    self.assertEqual((trail.sightings, trail.words(), trail.spare(), trail.known()),
                                     (rows, fresh.words(), fresh.spare(), fresh.known()))


if __name__ == "__main__":
    unittest.main()
