"""The machines with the fewest states for one word, for what begins or ends with a word, and for one size."""

from blackbars.machines import Machine
from blackbars.words import CHARACTERS, PLACE_OF


def _codes(word):
    """Return the codes of groups: one for each character of a word, and one for all others."""
    keys = [char if char in word else "" for char in CHARACTERS]
    number = {}
    return [number.setdefault(key, len(number)) for key in keys]


def _chain(word, accepts_more):
    """Return the machine for a word, and for all that begin with it if more is accepted."""
    codes = _codes(word)
    path = [codes[PLACE_OF[char]] for char in word]
    # States are numbered by least words: the one that all others lead to is met first, unless the word begins with
    # the least character there is.
    dead = 2 if path[0] == 0 else 1
    row = [dead] * (max(codes) + 1)
    moves = [list(row) for _ in range(len(word) + 2)]
    marks = [0] * len(moves)
    state = 0
    for at, code in enumerate(path):
        further = at + 1 if at + 1 < dead else at + 2
        moves[state][code] = further
        state = further
    marks[state] = 1
    if accepts_more:
        moves[state] = [state] * len(row)
    return Machine(codes, moves, marks)


def word_machine(word):
    """Return the machine for one word."""
    return _chain(word, False)


def begin_machine(word):
    """Return the machine for the words that begin with a word."""
    return _chain(word, True)


def end_machine(word):
    """Return the machine for the words that end with a word."""
    codes = _codes(word)
    # A state is how much of the word has been read; where it does not go on, what begins later may do.
    later = [0] * (max(codes) + 1)
    moves = []
    for at, char in enumerate(word):
        code = codes[PLACE_OF[char]]
        row = list(later)
        row[code] = at + 1
        moves.append(row)
        later = moves[later[code]]
    moves.append(list(later))
    return Machine(codes, moves, [0] * len(word) + [1])


def size_machine(size):
    """Return the machine for the words with so many characters."""
    moves = [[at + 1] for at in range(size + 1)] + [[size + 1]]
    return Machine([0] * len(CHARACTERS), moves, [0] * size + [1, 0])


def every_machine():
    """Return the machine for all words."""
    return Machine([0] * len(CHARACTERS), [[1], [1]], [0, 1])


def none_machine():
    """Return the machine for no word."""
    return Machine([0] * len(CHARACTERS), [[0]], [0])
