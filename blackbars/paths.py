"""The ways through a machine to words with the mark 1: how many there are, and the least ones."""

from blackbars.machines import all_sources
from blackbars.words import CHARACTERS


def _reaching(machine):
    """Return for each state whether a word with a mark may follow, no characters included."""
    sources = all_sources(machine.moves)
    found = [mark != 0 for mark in machine.marks]
    todo = [state for state, reaches in enumerate(found) if reaches]
    while todo:
        for source in sources[todo.pop()]:
            if not found[source]:
                found[source] = True
                todo.append(source)
    return found


class Paths:
    """The moves of a machine from which a marked word may follow."""

    def __init__(self, machine):
        self.machine = machine
        self.reaching = _reaching(machine)
        self.edges = [self._edges_of(row) for row in machine.moves]
        self._choices = {}

    def _edges_of(self, row):
        """Return the list of the tuples (state, how many characters lead there) for a row of moves."""
        many_to = {}
        for group, target in zip(self.machine.groups, row):
            if self.reaching[target]:
                many_to[target] = many_to.get(target, 0) + len(group)
        return list(many_to.items())

    def choices(self, state):
        """Return the list of the tuples (character, state) for the moves from a state, ascending."""
        if state not in self._choices:
            row = self.machine.moves[state]
            pairs = [(char, row[self.machine.group_of[char]]) for char in CHARACTERS]
            self._choices[state] = [pair for pair in pairs if self.reaching[pair[1]]]
        return self._choices[state]

    def counts_from(self, start):
        """Return a dict from states to how many words lead there from a state; and the bits of those without an end."""
        incoming = {start: 0}
        order = [start]
        at = 0
        while at < len(order):
            for target, _ in self.edges[order[at]]:
                if target not in incoming:
                    incoming[target] = 0
                    order.append(target)
                incoming[target] = incoming[target] + 1
            at += 1
        # What is on a loop, or behind one, is never ready.
        counts = {start: 1}
        ready = [start] if incoming[start] == 0 else []
        while ready:
            state = ready.pop()
            for target, many in self.edges[state]:
                counts[target] = counts.get(target, 0) + counts[state] * many
                incoming[target] = incoming[target] - 1
                if incoming[target] == 0:
                    ready.append(target)
        endless = sum([1 << state for state in order if incoming[state] > 0])
        return {state: counts[state] for state in order if incoming[state] == 0}, endless

    def one_longer(self, counts):
        """Return the dict from states to how many words lead there, by one character more than a dict tells."""
        longer = {}
        for state, many in counts.items():
            for target, chars in self.edges[state]:
                longer[target] = longer.get(target, 0) + many * chars
        return longer

    def least_from(self, start):
        """Return a dict from states to the least words that lead there from a state, the least one first."""
        words = {start: ""}
        order = [start]
        at = 0
        while at < len(order):
            state = order[at]
            for group, target in zip(self.machine.groups, self.machine.moves[state]):
                if self.reaching[target] and target not in words:
                    words[target] = words[state] + group[0]
                    order.append(target)
            at += 1
        return words

    def one_further(self, goals):
        """Return for each state whether a move leads from it to one of the goals, a list of what is one."""
        return [any([goals[target] for target, _ in edges]) for edges in self.edges]

    def least_words(self, start, goals, most):
        """Return the list of the least words, at most so many, from a state to the goals.

        The words have one character less than goals has lists; the list k tells for each state whether the
        end can be reached from it by k characters.
        """
        found = [("", start)]
        for goal in goals[-2::-1]:
            longer = []
            for word, state in found:
                for char, target in self.choices(state):
                    if goal[target]:
                        longer.append((word + char, target))
                if len(longer) >= most:
                    break
            found = longer[:most]
        return [word for word, _ in found]
