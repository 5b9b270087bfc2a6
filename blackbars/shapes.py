"""Runs and shapes, and which words fit them."""

from blackbars.strips import Strips
from blackbars.words import CHARACTERS, DIGITS, LETTERS, is_word

MOST_IN_RUN = 6
MOST_RUNS = 4


def _is_number(value, least):
    return isinstance(value, int) and not isinstance(value, bool) and least <= value <= MOST_IN_RUN


def _are_bounds(low, high):
    if not _is_number(low, 0):
        return False
    return high is None or (_is_number(high, 1) and high >= low)


def is_run(value):
    """Return whether any value is a run."""
    if not isinstance(value, tuple):
        return False
    if len(value) == 2:
        return value[0] == "text" and is_word(value[1]) and len(value[1]) <= MOST_IN_RUN
    return len(value) == 3 and value[0] in ("letters", "digits", "any") and _are_bounds(value[1], value[2])


def is_shape(value):
    """Return whether any value is a shape."""
    return isinstance(value, tuple) and 1 <= len(value) <= MOST_RUNS and all([is_run(run) for run in value])


def _is_piece(run, word):
    """Return whether a word fits a single run."""
    if run[0] == "text":
        return word == run[1]
    if len(word) < run[1] or (run[2] is not None and len(word) > run[2]):
        return False
    if run[0] == "letters":
        return word.isalpha()
    return run[0] == "any" or word.isdigit()


def _inside(kind, word):
    """Return the places, as bits, of the characters of a word that a kind of run takes."""
    if kind == "any":
        return (1 << len(word)) - 1
    chars = LETTERS if kind == "letters" else DIGITS
    found = 0
    bit = 1
    for char in word:
        if char in chars:
            found = found | bit
        bit = bit << 1
    return found


def _behind_text(text, word, places):
    found = 0
    at = word.find(text)
    while at >= 0:
        if (places >> at) & 1:
            found = found | (1 << (at + len(text)))
        at = word.find(text, at + 1)
    return found


def _behind_run(run, word, places):
    """Return the places of a word where a piece that fits a run can end, if it begins at one of some places."""
    if run[0] == "text":
        return _behind_text(run[1], word, places)
    kind, low, high = run
    inside = _inside(kind, word)
    for _ in range(low):
        places = (places & inside) << 1
    if high is None:
        # The sum carries each place through all characters behind it that the run takes.
        return places | ((inside + (places & inside)) ^ inside)
    for _ in range(high - low):
        places = places | ((places & inside) << 1)
    return places


def fits(shape, word):
    """Return whether a word fits a shape."""
    if len(shape) == 1:
        return word != "" and _is_piece(shape[0], word)
    # Most words that are asked for are too short; this tells so before anything else is looked at.
    spare = len(word)
    for run in shape:
        spare = spare - (len(run[1]) if run[0] == "text" else run[1])
        if spare < 0:
            return False
    places = 1
    for run in shape:
        places = _behind_run(run, word, places)
        if places == 0:
            return False
    return word != "" and (places >> len(word)) & 1 == 1


def _least_char(run):
    if run[0] == "letters":
        return LETTERS[0]
    return DIGITS[0] if run[0] == "digits" else CHARACTERS[0]


def least_word(shape):
    """Return the least word that fits a shape."""
    word = "".join([run[1] if run[0] == "text" else _least_char(run) * run[1] for run in shape])
    # Pieces may be empty, but a word is not: where nothing is needed, one character is taken.
    return word or min([_least_char(run) for run in shape])


def _turned(shape):
    """Return the shape of the same words, each read from its end."""
    return tuple([("text", run[1][::-1]) if run[0] == "text" else run for run in shape[::-1]])


def _moves(strips, places):
    many_to = {}
    for group, further in zip(strips.groups, strips.after(places)):
        if further != 0:
            many_to[further] = many_to.get(further, 0) + len(group)
    return list(many_to.items())


def _count_within(shape, size, limit):
    """Return how many words of so many characters fit, or None if too many sets of places are met."""
    strips = Strips([shape])
    moves = {}
    counts = {strips.first: 1}
    for _ in range(size):
        longer = {}
        for places, many in counts.items():
            if places not in moves:
                moves[places] = _moves(strips, places)
            for further, chars in moves[places]:
                longer[further] = longer.get(further, 0) + many * chars
        if len(moves) > limit:
            return None
        counts = longer
    return sum([many for places, many in counts.items() if places & strips.ends[0]])


def count_words(shape, size):
    """Return how many words of so many characters fit a shape."""
    if size < 1:
        return 0
    # There are as many words read from their ends, and one of the two ways may need far fewer places.
    limit = 50
    while True:
        for way in (shape, _turned(shape)):
            many = _count_within(way, size, limit)
            if many is not None:
                return many
        limit = limit * 4
