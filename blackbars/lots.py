"""Lots: sets of words, endless ones too, each kept as the machine with the fewest states."""

from blackbars.machines import Machine, least_machine, paired, shapes_machine
from blackbars.paths import Paths
from blackbars.reads import EVERY, begin_shape, end_shape, exact_shape, shown_shape, size_shape
from blackbars.words import CHARACTERS, is_word

BOTH = (0, 0, 0, 1)
ONE = (0, 1, 1, 1)
FIRST_ALONE = (0, 0, 1, 0)


def _combined(first, second, keep):
    machine = paired(first, second, keep)
    return least_machine(machine, machine.marks)


class Lot:
    """A set of words; made by the functions of this module."""

    def __init__(self, machine):
        self.machine = machine
        self._paths = None

    def __and__(self, other):
        return Lot(_combined(self.machine, other.machine, BOTH))

    def __or__(self, other):
        return Lot(_combined(self.machine, other.machine, ONE))

    def __sub__(self, other):
        return Lot(_combined(self.machine, other.machine, FIRST_ALONE))

    def __eq__(self, other):
        if not isinstance(other, Lot):
            return False
        first, second = self.machine, other.machine
        return first.marks == second.marks and first.groups == second.groups and first.moves == second.moves

    def __contains__(self, word):
        return is_word(word) and self.machine.marks[self.machine.run(0, word)] == 1

    def paths(self):
        """Return the ways through the machine of the lot."""
        if self._paths is None:
            self._paths = Paths(self.machine)
        return self._paths

    def least(self):
        """Return the least word, or None."""
        for state, word in self.paths().least_from(0).items():
            if self.machine.marks[state]:
                return word
        return None

    def count(self):
        """Return how many words there are, or None for endless."""
        counts, endless = self.paths().counts_from(0)
        if endless:
            return None
        return sum([many for state, many in counts.items() if self.machine.marks[state]])

    def count_of(self, size):
        """Return how many words of so many characters there are."""
        counts = {0: 1}
        for _ in range(size):
            counts = self.paths().one_longer(counts)
        return sum([many for state, many in counts.items() if self.machine.marks[state]])

    def words(self, most):
        """Return the list of the least words, in order: so many, or all if there are fewer."""
        found = []
        goals = [[mark == 1 for mark in self.machine.marks]]
        while len(found) < most:
            goals.append(self.paths().one_further(goals[-1]))
            if not any(goals[-1]):
                break
            if goals[-1][0]:
                found.extend(self.paths().least_words(0, goals, most - len(found)))
        return found


def lot_of_shape(shape):
    """Return the lot of a shape whose runs may be longer than those that a shape may have."""
    machine, _ = shapes_machine([shape])
    return marked_lot(machine, [1 if mark else 0 for mark in machine.marks])


def marked_lot(machine, marks):
    """Return the lot of the words that lead to the states of a machine that have a mark."""
    return Lot(least_machine(machine, marks))


def shape_lot(shape):
    """Return the lot of the words that fit a shape."""
    return lot_of_shape(shape)


def word_lot(word):
    """Return the lot of one word."""
    return lot_of_shape(exact_shape(word))


def begin_lot(word):
    """Return the lot of the words that begin with a word."""
    return lot_of_shape(begin_shape(word))


def end_lot(word):
    """Return the lot of the words that end with a word."""
    return lot_of_shape(end_shape(word))


def size_lot(size):
    """Return the lot of the words with so many characters."""
    return lot_of_shape(size_shape(size))


def every_lot():
    """Return the lot of all words."""
    return lot_of_shape(EVERY)


def none_lot():
    """Return the lot without a word."""
    return Lot(Machine([CHARACTERS], [[0]], [0]))


def act_lot(act, shown_words):
    """Return the lot of all words of which an act shows a list ([] or [shown word])."""
    shape = shown_shape(act, shown_words)
    return none_lot() if shape is None else lot_of_shape(shape)


def _shows(label, rules, bit_of):
    """Return 1 if the rule that is done shows what is asked for, else 0; rules are tuples (shape, shape or None)."""
    for shape, wanted in rules:
        if label & bit_of[shape]:
            return 1 if wanted is not None and label & bit_of[wanted] else 0
    return 0


def view_lot(view, ahead, shown_words):
    """Return the lot of the words of which a view shows a list behind a word (or "")."""
    rules = [(shape, shown_shape(act, shown_words))
             for behind, shape, act in view if not behind or ahead in behind]
    # A word that no rule is for is kept.
    rules.append((EVERY, shown_shape(("keep",), shown_words)))
    shapes = {shape: True for rule in rules for shape in rule if shape is not None}
    machine, bits = shapes_machine(list(shapes))
    bit_of = {shape: bit for shape, bit in zip(list(shapes), bits)}
    return marked_lot(machine, [_shows(label, rules, bit_of) for label in machine.marks])
