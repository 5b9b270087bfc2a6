"""Runs and shapes, and which words fit them."""

from blackbars.cells import all_moves, first_places, is_whole, next_places, shape_cells
from blackbars.words import is_word

MOST_IN_RUN = 6
MOST_RUNS = 4


def _is_number(value, least):
    return isinstance(value, int) and not isinstance(value, bool) and least <= value <= MOST_IN_RUN


def _are_bounds(low, high):
    if not _is_number(low, 0):
        return False
    return high is None or (_is_number(high, 1) and high >= low)


def is_run(value):
    """Return whether any value is a run."""
    if not isinstance(value, tuple):
        return False
    if len(value) == 2:
        return value[0] == "text" and is_word(value[1]) and len(value[1]) <= MOST_IN_RUN
    return len(value) == 3 and value[0] in ("letters", "digits", "any") and _are_bounds(value[1], value[2])


def is_shape(value):
    """Return whether any value is a shape."""
    return isinstance(value, tuple) and 1 <= len(value) <= MOST_RUNS and all([is_run(run) for run in value])


def fits(shape, word):
    """Return whether a word fits a shape."""
    cells = shape_cells(shape)
    places = first_places(cells)
    for char in word:
        places = next_places(cells, places, char)
    return word != "" and is_whole(cells, places)


def least_word(shape):
    """Return the least word that fits a shape."""
    cells = shape_cells(shape)
    word = "".join([min(chars) for chars, optional, _ in cells if not optional])
    # Pieces may be empty, but a word is not: where nothing is needed, one cell is taken.
    return word or min([min(cell[0]) for cell in cells])


def _one_longer(moves, counts):
    longer = {}
    for places, many in counts.items():
        for further, chars in moves[places]:
            longer[further] = longer.get(further, 0) + many * chars
    return longer


def count_words(shape, size):
    """Return how many words of so many characters fit a shape."""
    if size < 1:
        return 0
    cells = shape_cells(shape)
    moves = all_moves(cells)
    backward = all_moves(cells[::-1])
    # There are as many words read from their ends, and one of the two ways may need far fewer places.
    if len(backward) < len(moves):
        cells, moves = cells[::-1], backward
    counts = {first_places(cells): 1}
    for _ in range(size):
        counts = _one_longer(moves, counts)
    return sum([many for places, many in counts.items() if is_whole(cells, places)])
