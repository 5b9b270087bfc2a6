"""Lots: sets of words, endless ones too, each kept as a machine that marks its words."""

from blackbars.chains import begin_machine, end_machine, every_machine, none_machine, size_machine, word_machine
from blackbars.machines import Machine, are_equal, least_machine, paired, shapes_machine
from blackbars.paths import Paths
from blackbars.reads import ANYTHING, EVERY, shown_shape
from blackbars.words import is_word

# For each way to put two lots together: whether words are kept that neither, the second, the first, both have; and
# which mark of the first machine, and of the second, decides that alone if it does not change any more.
BOTH = ((0, 0, 0, 1), (0, 0))
ONE = ((0, 1, 1, 1), (1, 1))
FIRST_ALONE = ((0, 0, 1, 0), (0, 1))
# Machines with more states are told with the fewest there can be, unless two that are put together come to no more
# states than both have; for small ones it is worth the while only where the states of both multiply.
MOST_LOOSE = 40
MOST_LOOSE_SUM = 400
MOST_LOOSE_PAIRS = 600


def _tight(machine):
    """Return a machine, a small one with the fewest states there can be."""
    return machine if len(machine.moves) > MOST_LOOSE else least_machine(machine, machine.marks)


def _combined(first, second, way):
    if len(first.moves) * len(second.moves) > MOST_LOOSE_PAIRS:
        first, second = _tight(first), _tight(second)
    machine = paired(first, second, way[0], way[1])
    if len(machine.moves) <= max(MOST_LOOSE, min(MOST_LOOSE_SUM, len(first.moves) + len(second.moves))):
        return machine
    return least_machine(machine, machine.marks)


class Lot:
    """A set of words; made by the functions of this module."""

    def __init__(self, machine):
        self.machine = machine
        self._paths = None

    def __and__(self, other):
        return Lot(_combined(self.machine, other.machine, BOTH))

    def __or__(self, other):
        return Lot(_combined(self.machine, other.machine, ONE))

    def __sub__(self, other):
        return Lot(_combined(self.machine, other.machine, FIRST_ALONE))

    def __eq__(self, other):
        if not isinstance(other, Lot):
            return False
        return are_equal(self.machine, other.machine)

    def __contains__(self, word):
        return is_word(word) and self.machine.marks[self.machine.run(0, word)] == 1

    def paths(self):
        """Return the ways through the machine of the lot."""
        if self._paths is None:
            self._paths = Paths(self.machine)
        return self._paths

    def least(self):
        """Return the least word, or None."""
        return self.paths().least()

    def count(self):
        """Return how many words there are, or None for endless."""
        counts, endless = self.paths().counts_from(0)
        if endless:
            return None
        return sum([many for state, many in counts.items() if self.machine.marks[state]])

    def count_of(self, size):
        """Return how many words of so many characters there are."""
        return self.paths().count_of(size)

    def words(self, most):
        """Return the list of the least words, in order: so many, or all if there are fewer."""
        return self.paths().words(most)


def loose_lot(machine, marks):
    """Return the lot of the words that lead to the states of a machine that have a mark."""
    if len(machine.moves) > MOST_LOOSE:
        return least_lot(machine, marks)
    return Lot(Machine(machine.codes, machine.moves, marks))


def least_lot(machine, marks):
    """Return the lot as loose_lot does, with the fewest states there can be."""
    return Lot(least_machine(machine, marks))


def _lot_at_once(shape):
    """Return the lot of a shape that says no more than a word, a begin, an end or a size; None for other shapes."""
    kinds = [run[0] for run in shape]
    if kinds == ["text"]:
        return word_lot(shape[0][1])
    if kinds == ["any"]:
        _, low, high = shape[0]
        if low == high:
            return size_lot(low)
        return every_lot() if low < 2 and high is None else None
    if kinds == ["text", "any"] and shape[1] == ANYTHING:
        return begin_lot(shape[0][1])
    return end_lot(shape[1][1]) if kinds == ["any", "text"] and shape[0] == ANYTHING else None


def shape_lot(shape):
    """Return the lot of the words that fit a shape."""
    lot = _lot_at_once(shape)
    if lot is not None:
        return lot
    machine, _ = shapes_machine([shape])
    return loose_lot(machine, [1 if mark else 0 for mark in machine.marks])


def word_lot(word):
    """Return the lot of one word."""
    return Lot(word_machine(word))


def begin_lot(word):
    """Return the lot of the words that begin with a word."""
    return Lot(begin_machine(word))


def end_lot(word):
    """Return the lot of the words that end with a word."""
    return Lot(end_machine(word))


def size_lot(size):
    """Return the lot of the words with so many characters."""
    return Lot(size_machine(size))


def every_lot():
    """Return the lot of all words."""
    return Lot(every_machine())


def none_lot():
    """Return the lot without a word."""
    return Lot(none_machine())


def act_lot(act, shown_words):
    """Return the lot of all words of which an act shows a list ([] or [shown word])."""
    shape = shown_shape(act, shown_words)
    return none_lot() if shape is None else shape_lot(shape)


def _shows(label, rules, bit_of):
    """Return 1 if the rule that is done shows what is asked for, else 0; rules are tuples (shape, shape or None)."""
    for shape, wanted in rules:
        if label & bit_of[shape]:
            return 1 if wanted is not None and label & bit_of[wanted] else 0
    return 0


def view_lot(view, ahead, shown_words):
    """Return the lot of the words of which a view shows a list behind a word (or "")."""
    rules = [(shape, shown_shape(act, shown_words))
             for behind, shape, act in view if not behind or ahead in behind]
    # A word that no rule is for is kept.
    rules.append((EVERY, shown_shape(("keep",), shown_words)))
    shapes = {shape: True for rule in rules for shape in rule if shape is not None}
    machine, bits = shapes_machine(list(shapes))
    bit_of = {shape: bit for shape, bit in zip(list(shapes), bits)}
    return loose_lot(machine, [_shows(label, rules, bit_of) for label in machine.marks])
