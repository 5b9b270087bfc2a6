"""Shapes laid out character by character, and the places that a word can have got to in them.

A cell is a tuple (characters, optional, again): one character of a word is one of these
characters; the cell may be left out; it may be taken several times. The place k stands before
the cell k, the last place behind all cells. Places are kept together as the bits of an integer,
so that all ways to cut a word are followed at once, and a word is counted once.
"""

from blackbars.words import CHARACTERS, DIGITS, LETTERS


def _kind_chars(kind):
    if kind == "letters":
        return LETTERS
    if kind == "digits":
        return DIGITS
    return CHARACTERS


def _run_cells(run):
    if run[0] == "text":
        return [(char, False, False) for char in run[1]]
    kind, low, high = run
    chars = _kind_chars(kind)
    needed = [(chars, False, False)] * low
    if high is None:
        return needed + [(chars, True, True)]
    return needed + [(chars, True, False)] * (high - low)


def shape_cells(shape):
    """Return the list of the cells of a shape."""
    return [cell for run in shape for cell in _run_cells(run)]


def _with_left_out(cells, places):
    found = places
    for at, (chars, optional, again) in enumerate(cells):
        if optional and (found >> at) & 1:
            found = found | (2 << at)
    return found


def first_places(cells):
    """Return the places before the first character."""
    return _with_left_out(cells, 1)


def next_places(cells, places, char):
    """Return the places that one more character leads to; 0 if there is none."""
    found = 0
    for at, (chars, optional, again) in enumerate(cells):
        if (places >> at) & 1 and char in chars:
            found = found | (1 << (at if again else at + 1))
    return _with_left_out(cells, found)


def is_whole(cells, places):
    """Return whether one of the places is behind all cells."""
    return (places >> len(cells)) & 1 == 1


def like_chars(cells):
    """Return a tuple (character, how many) for each kind of characters that the cells treat alike."""
    groups = {}
    for char in CHARACTERS:
        key = tuple([char in cell[0] for cell in cells])
        groups.setdefault(key, []).append(char)
    return [(chars[0], len(chars)) for chars in groups.values()]


def _moves(cells, chars, places):
    many_to = {}
    for char, many in chars:
        further = next_places(cells, places, char)
        if further != 0:
            many_to[further] = many_to.get(further, 0) + many
    return list(many_to.items())


def all_moves(cells):
    """Return a dict from all places that can be reached to the list of the moves from them.

    A move is a tuple (places, how many characters lead there).
    """
    chars = like_chars(cells)
    moves = {}
    todo = [first_places(cells)]
    while todo:
        places = todo.pop()
        if places not in moves:
            moves[places] = _moves(cells, chars, places)
            todo.extend([move[0] for move in moves[places]])
    return moves
