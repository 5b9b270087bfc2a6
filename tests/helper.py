"""What several test files need: any values, a plain second reading of the document, and drawn cases."""

import copy
import doctest
import functools
import itertools
import random
import re
import unittest

from blackbars.cases import Case
from blackbars.errors import BarError
from blackbars.lots import act_lot, every_lot, none_lot, shape_lot, size_lot, word_lot

CHARACTERS = "-0123456789abcdefghijklmnopqrstuvwxyz"
SETS = {"letters": "[a-z]", "digits": "[0-9]", "any": "[a-z0-9-]"}
EVERY = (("any", 0, None),)
LETTERS = (("letters", 1, None),)
DIGITS = (("digits", 1, None),)


def nested(depth, kind):
    """Return a list, tuple or dict with so many levels."""
    value = kind()
    for _ in range(depth - 1):
        if kind is dict:
            value = {"a": value}
        else:
            value = kind([value])
    return value


def any_values():
    """Return values of every kind that "any value" means, none of them a word or a shape."""
    return [
        0, 1, -1, 10 ** 59, -(10 ** 59), True, False, None, "", " ", "*", "A", "a b", "a\n", "\n",
        "user_7", "\x00", "~", (), [], {}, {"a": 1}, {1: ["a"]}, (None,), [None], [0], [[0]], [True],
        ("a", 1), [("a",)], (("a",),), nested(100, list), nested(100, tuple), nested(100, dict),
        (nested(99, list), 1, 2), ("letters", nested(99, tuple), nested(99, list)),
        ("text", nested(99, dict)), [nested(99, tuple)], [[nested(98, dict)]],
    ]


def is_own(value):
    """Return whether a value is an object of the program, whose text does not tell what it holds."""
    return type(value).__module__.startswith("blackbars")


class Checks(unittest.TestCase):
    """A test case that checks answers, and that calls leave their arguments as they are."""

    def check_example(self, text):
        """Run an example of the interface as it stands in the document."""
        test = doctest.DocTestParser().get_doctest(text, {}, self.id(), None, 0)
        self.assertGreater(len(test.examples), 1)
        told = []
        result = doctest.DocTestRunner(verbose=False).run(test, out=told.append)
        self.assertEqual(result.failed, 0, "".join(told))

    def call(self, function, **arguments):
        """Call by position and by name; the answers are equal and the arguments unchanged."""
        plain = {name: value for name, value in arguments.items() if not is_own(value)}
        before = copy.deepcopy(plain)
        by_name = function(**arguments)
        by_position = function(*arguments.values())
        self.assertEqual(by_name, by_position)
        self.assertEqual(repr(plain), repr(before))
        return by_name

    def check_judged(self, function, value, expected, **more):
        """Check what a function that judges any value returns of one."""
        with self.subTest(value=repr(value)[:80]):
            self.assertIs(self.call(function, **more, value=value), expected)

    def check_raised(self, error, kept, function, /, **arguments):
        """Check that a call raises an error with the very value, by name and by position, and changes nothing."""
        plain = {name: part for name, part in arguments.items() if not is_own(part)}
        before = copy.deepcopy(plain)
        with self.subTest(error=error.__name__, value=repr(kept)[:80]):
            for named in (arguments, {}):
                with self.assertRaises(BarError) as caught:
                    function(*(() if named else arguments.values()), **named)
                self.assertIs(type(caught.exception), error)
                self.assertIs(caught.exception.value, kept)
            self.assertEqual(repr(plain), repr(before))

    def check_defined(self, module, functions, classes=()):
        """Check that a module itself defines what the interface lists: functions, and classes with methods."""
        for name in functions:
            self.assertEqual(getattr(module, name).__module__, module.__name__, name)
        for name, methods in classes:
            made = getattr(module, name)
            self.assertEqual(made.__module__, module.__name__)
            for method in methods:
                self.assertIn(method, vars(made))


def words_of(size, characters=CHARACTERS):
    """Return the list of all words of so many characters."""
    return ["".join(chars) for chars in itertools.product(characters, repeat=size)]


@functools.lru_cache(None)
def words_up_to(size):
    """Return the tuple of all words with at most so many characters, in order."""
    return tuple(word for k in range(1, size + 1) for word in words_of(k))


@functools.lru_cache(None)
def pattern(shape):
    """Return a regular expression for the words of a shape: a second, independent reading of it."""
    parts = []
    for run in shape:
        if run[0] == "text":
            parts.append(re.escape(run[1]))
        else:
            kind, low, high = run
            parts.append("%s{%d,%s}" % (SETS[kind], low, "" if high is None else high))
    return re.compile("".join(parts))


def plain_fits(shape, word):
    return word != "" and pattern(shape).fullmatch(word) is not None


def plain_done(view, ahead, word):
    """Return the place of the first rule that is for a word, or None, as [5] and [6] say."""
    for place, (behind, shape, _) in enumerate(view):
        if (behind == () or ahead in behind) and plain_fits(shape, word):
            return place
    return None


def plain_act(act, word):
    if act[0] == "put":
        return [act[1]]
    if act[0] == "first":
        return ["".join(itertools.islice(word, act[1])) + "*"]
    if act[0] == "last":
        return ["*" + "".join(char for at, char in enumerate(word) if at >= len(word) - act[1])]
    return {"keep": [word], "stars": ["".join("*" for _ in word)], "out": []}[act[0]]


def plain_shown(view, ahead, word):
    place = plain_done(view, ahead, word)
    return [word] if place is None else plain_act(view[place][2], word)


def plain_masked(view, log):
    """Return the masked log, word by word, as [6] says."""
    found = []
    for line in log:
        found.append([])
        for at, word in enumerate(line):
            found[-1] += plain_shown(view, line[at - 1] if at else "", word)
    return found


def plain_is_secret(secrets, ahead, word):
    """Return whether a word is secret behind a word, as [7] says."""
    if any(word in behind for behind, _ in secrets):
        return False
    return any(ahead in behind and plain_fits(shape, word) for behind, shape in secrets)


def plain_together(views, secrets):
    """Return whether views and secrets go together, as the end of [7] says."""
    def may_be_secret(word):
        return any(plain_fits(shape, word) for _, shape in secrets) and all(word not in behind for behind, _ in secrets)

    for view in views:
        named = [any(may_be_secret(word) for word in rule[0]) for rule in view]
        if any(rule[2] == ("out",) and any(named[:at + 1]) for at, rule in enumerate(view)):
            return False
    return True


def secrets_up_to(case, ahead, size):
    """Return the list of the words with at most so many characters that are secret behind a word, in order."""
    return [word for word in words_up_to(size) if plain_is_secret(case.secrets, ahead, word)]


def log_with(ahead, word, further=None):
    """Return a log with a word behind a word (or "") and before a further one (or None), and the word's spot."""
    line = [part for part in (ahead, word, further) if part]
    return [line], (0, 1 if ahead else 0)


def drawn_word(draw, most=2, characters="ab0-"):
    return "".join(draw.choice(characters) for _ in range(draw.randint(1, most)))


def drawn_run(draw):
    kind = draw.choice(("letters", "digits", "any", "text", "any"))
    if kind == "text":
        return kind, drawn_word(draw)
    low = draw.choice((0, 0, 1, 1, 2))
    return kind, low, draw.choice((None, None, *range(max(low, 1), 4)))


def drawn_shape(draw):
    return tuple(drawn_run(draw) for _ in range(draw.choice((1, 1, 1, 2, 2, 3))))


def drawn_behind(draw, sizes):
    strings = ["", "a", "b", "0", "-", "ab", "aa", "u-", "b0", "0a"]
    return tuple(sorted(draw.sample(strings, draw.choice(sizes))))


def drawn_act(draw):
    kind = draw.choice(("keep", "put", "put", "first", "last", "first", "last", "stars", "stars", "out"))
    if kind == "put":
        return kind, draw.choice(("x", "*", "**", "***", "a*", "*a", "ab*", "a", "b", "aa", "0", "*b0", "a*b", "-*"))
    if kind in ("first", "last"):
        return kind, draw.choice((1, 1, 2, 3))
    return (kind,)


def drawn_view(draw):
    return tuple((drawn_behind(draw, (0, 0, 1, 1, 2, 3)), drawn_shape(draw), drawn_act(draw))
                 for _ in range(draw.choice((0, 1, 1, 2, 2, 3, 4, 6))))


def drawn_secret(draw):
    return drawn_behind(draw, (1, 1, 2, 3)), drawn_shape(draw)


def short_secret(draw):
    """Return a secret all of whose words have at most three characters."""
    shapes = [
        (("digits", 1, 3),), (("letters", 1, 2),), (("any", 1, 1),), (("any", 2, 2),), (("digits", 2, 3),),
        (("text", "a"), ("digits", 0, 2)), (("digits", 1, 2), ("text", "-")), (("letters", 0, 1), ("any", 0, 1)),
        (("text", drawn_word(draw)),), (("any", 0, 1), ("text", "b"), ("digits", 0, 1)), (("letters", 1, 1),),
    ]
    return drawn_behind(draw, (1, 1, 2, 3)), draw.choice(shapes)


def drawn_case(draw, new_secret=drawn_secret):
    """Return a drawn case."""
    while True:
        views = [drawn_view(draw) for _ in range(draw.choice((1, 1, 2, 2, 3)))]
        secrets = [new_secret(draw) for _ in range(draw.choice((1, 1, 2, 3)))]
        if plain_together(views, secrets):
            return Case(views, secrets)


def drawn_places(draw, case):
    return [draw.randrange(len(case.views)) for _ in range(draw.choice((0, 1, 1, 2, 2, 3)))]


def drawn_aheads(case):
    """Return the list of the strings that stand in behinds of the secrets of a case."""
    return sorted({ahead for behind, _ in case.secrets for ahead in behind})


def drawn_log(draw, case, words="ab0-"):
    """Return a drawn log, in which secrets of a case are likely."""
    log = []
    for _ in range(draw.choice((0, 1, 1, 2, 3))):
        line = []
        for _ in range(draw.choice((0, 1, 2, 3, 4))):
            line.append(draw.choice([drawn_word(draw, 3, words), *filter(None, drawn_aheads(case))]))
        log.append(line)
    return log


def drawn(seed):
    return random.Random(seed)


def names_of(*views):
    """Return the list of all words that rules of views name: words ahead, and texts that are put."""
    names = {name for view in views for behind, _, _ in view for name in behind}
    names |= {act[1] for view in views for _, _, act in view if act[0] == "put" and "*" not in act[1]}
    return sorted(names - {""})


def done_lots(view, ahead):
    """Return the lots of the words for which each rule of a view is done behind a string, and that of the others."""
    rest, found = every_lot(), []
    for behind, shape, _ in view:
        lot = shape_lot(shape) if behind == () or ahead in behind else none_lot()
        found.append(rest & lot)
        rest = rest - lot
    return [*found, rest]


def same_lot(first, second):
    """Return the lot of the words of which two acts show the same."""
    if first == second:
        return every_lot()
    if first[0] == "put" or second[0] == "put":
        text, act = (first[1], second) if first[0] == "put" else (second[1], first)
        return act_lot(act, [text])
    found = none_lot()
    if first[0] == second[0]:
        for size in range(1, min(first[1], second[1]) + 1):
            found = found | size_lot(size)
    return found


def secrets_lot(secrets, ahead):
    """Return the lot of the words that are secret behind a string."""
    found = none_lot()
    for behind, shape in secrets:
        if ahead in behind:
            found = found | shape_lot(shape)
    for behind, _ in secrets:
        for name in behind:
            found = found - word_lot(name) if name else found
    return found


def aheads_of(names):
    """Return "", some words, and the least other word: what rules that name some words may have ahead."""
    other = next(word for word in words_up_to(2) if word not in names)
    return ["", *sorted({*names, other} - {""})]


def least_line(aheads, lot_behind):
    """Return the least log of one line that ends with a word of the lot behind the string ahead of it, or None."""
    logs = []
    for ahead in aheads:
        word = lot_behind(ahead).least()
        if word is not None:
            logs.append([[ahead, word] if ahead else [word]])
    return min(logs, key=lambda log: (len(log[0]), len("".join(log[0])), log), default=None)
