"""Secrets of which views show the same but for characters at the begin and the end and for the size."""

from blackbars.lots import begin_lot, end_lot, size_lot, word_lot
from blackbars.machines import char_groups
from blackbars.words import PLACE_OF


class Part:
    """Secrets with the same kinds of what is shown; those that are read alike are hidden together."""

    def __init__(self, lot, kinds):
        self.lot = lot
        self.keeps = ("keep", 0) in kinds
        self.front = max([more for kind, more in kinds if kind == "first"], default=0)
        self.back = max([more for kind, more in kinds if kind == "last"], default=0)
        self.is_sized = ("stars", 0) in kinds
        # What later questions have worked out, for the next ones.
        self.worked_out = {}
        self._machine = lot.machine
        self.groups = char_groups(lot.machine.codes)
        self._goal = sum([1 << state for state, mark in enumerate(lot.machine.marks) if mark])
        self._before = {}
        self._counts = {}
        self._words = {}
        self._sized_counts = {}
        self._many = {}
        self._begins = None
        self._ends = None

    def reading(self, word):
        """Return what is read off a word of the part: a tuple that is the same for words that look the same."""
        if self.keeps:
            return (word,)
        return (word[:self.front], word[len(word) - self.back:], len(word) if self.is_sized else 0)

    def lot_like(self, word):
        """Return the lot of the words of the part that are read as one of it."""
        if self.keeps:
            return word_lot(word)
        found = self.lot
        if self.front:
            found = found & begin_lot(word[:self.front])
        if self.back:
            found = found & end_lot(word[len(word) - self.back:])
        return found & size_lot(len(word)) if self.is_sized else found

    def least_unlike(self, word):
        """Return the least word of the part that is not read as one of it, or None."""
        if not (self.keeps or self.front or self.back or self.is_sized):
            return None
        return (self.lot - self.lot_like(word)).least()

    def before(self, goals, group):
        """Return the bits of the states from which a character of a group leads to a state of some bits."""
        if (goals, group) not in self._before:
            rows = enumerate(self._machine.moves)
            self._before[(goals, group)] = sum([1 << state for state, row in rows if (goals >> row[group]) & 1])
        return self._before[(goals, group)]

    def goals_before(self, end):
        """Return the bits of the states from which a word leads to the end of a word of the part."""
        goals = self._goal
        for char in end[::-1]:
            goals = self.before(goals, self._machine.codes[PLACE_OF[char]])
        return goals

    def between(self, state, goals):
        """Return how many words, the empty one included, lead from a state to states of some bits; None for endless."""
        if state not in self._counts:
            self._counts[state] = self.lot.paths().counts_from(state)
        counts, endless = self._counts[state]
        if endless & goals:
            return None
        return sum([many for target, many in counts.items() if (goals >> target) & 1])

    def between_sized(self, state, goals, size):
        """Return how many words of so many characters lead from a state to states of some bits."""
        steps = self._sized_counts.setdefault(state, [{state: 1}])
        while len(steps) <= size:
            steps.append(self.lot.paths().one_longer(steps[-1]))
        return sum([many for target, many in steps[size].items() if (goals >> target) & 1])

    def least_between(self, state, goals):
        """Return the least word, perhaps the empty one, that leads from a state to states of some bits."""
        if state not in self._words:
            self._words[state] = self.lot.paths().least_from(state)
        for target, word in self._words[state].items():
            if (goals >> target) & 1:
                return word
        return None

    def many_short(self, begin, end):
        """Return how many words of the part begin and end so, and are too short for one to stand behind the other."""
        many = 0
        for size in range(1, min(len(begin), len(end)) + 1):
            if begin[len(begin) - size:] == end[:size]:
                many += self._machine.marks[self._machine.run(0, begin + end[size:])]
        return many

    def _many_like(self, begin, end, size):
        state, goals = self._machine.run(0, begin), self.goals_before(end)
        if self.is_sized:
            spare = size - len(begin) - len(end)
            # If the begin and the end overlap, nothing of the word is hidden.
            return 1 if spare < 0 else self.between_sized(state, goals, spare)
        many = self.between(state, goals)
        return None if many is None else many + self.many_short(begin, end)

    def how_many(self, word):
        """Return how many words of the part are read as one of it, None for endless."""
        if self.keeps:
            return 1
        key = self.reading(word)
        if key not in self._many:
            self._many[key] = self._many_like(key[0], key[1], key[2])
        return self._many[key]

    def all_begins(self):
        """Return a dict from states to tuples (least, how many) of what words of the part may begin with."""
        if self._begins is None:
            self._begins = self._new_begins()
        return self._begins

    def _new_begins(self):
        found = {0: ("", 1)}
        for _ in range(self.front):
            longer = {}
            for state, (word, many) in found.items():
                for target, begin, chars in self._moves(state):
                    least, known = longer.get(target, (word + begin, 0))
                    longer[target] = (min(least, word + begin), known + many * chars)
            found = longer
        return found

    def _moves(self, state):
        distances = self.lot.paths().distances()
        pairs = zip(self.groups, self._machine.moves[state])
        return [(target, group[0], len(group)) for group, target in pairs if distances[target] is not None]

    def all_ends(self):
        """Return a dict from bits of states to tuples (least, how many) of what words of the part may end with.

        The bits are those of the states from which such an end leads to the end of a word.
        """
        if self._ends is None:
            self._ends = self._new_ends()
        return self._ends

    def _new_ends(self):
        found = {self._goal: ("", 1)}
        for _ in range(self.back):
            longer = {}
            for goals, (word, many) in found.items():
                for at, group in enumerate(self.groups):
                    further = self.before(goals, at)
                    if further:
                        least, known = longer.get(further, (group[0] + word, 0))
                        longer[further] = (min(least, group[0] + word), known + many * len(group))
            found = longer
        return found
