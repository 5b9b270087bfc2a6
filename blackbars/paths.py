"""The ways through a machine to words with a mark: how many there are, and the least ones."""

from blackbars.least import all_sources
from blackbars.machines import char_groups

SHORT = 12


class Paths:
    """The moves of a machine from which a marked word may follow; what is asked for is worked out once."""

    def __init__(self, machine):
        self.machine = machine
        self.groups = char_groups(machine.codes)
        self._sizes = [len(group) for group in self.groups]
        self._sources = None
        self._distances = None
        self._edges = [None] * len(machine.moves)
        self._choices = {}

    def sources(self):
        """Return for each state the list of the states from which a character leads to it."""
        if self._sources is None:
            self._sources = all_sources(self.machine.moves)
        return self._sources

    def distances(self):
        """Return for each state how many characters at least lead to a marked word, or None."""
        if self._distances is None:
            self._distances = self._all_distances()
        return self._distances

    def _all_distances(self):
        found = [0 if mark else None for mark in self.machine.marks]
        states = [state for state, mark in enumerate(self.machine.marks) if mark]
        sources = self.sources()
        size = 0
        while states:
            size += 1
            further = []
            for state in states:
                for source in sources[state]:
                    if found[source] is None:
                        found[source] = size
                        further.append(source)
            states = further
        return found

    def edges(self, state):
        """Return the list of the tuples (state, how many characters lead there) for the moves from a state."""
        if self._edges[state] is None:
            distances = self.distances()
            many_to = {}
            for target, many in zip(self.machine.moves[state], self._sizes):
                if distances[target] is not None:
                    many_to[target] = many_to.get(target, 0) + many
            self._edges[state] = list(many_to.items())
        return self._edges[state]

    def choices(self, state):
        """Return the list of the tuples (group of characters, state) for the moves from a state."""
        if state not in self._choices:
            distances = self.distances()
            pairs = zip(self.groups, self.machine.moves[state])
            self._choices[state] = [pair for pair in pairs if distances[pair[1]] is not None]
        return self._choices[state]

    def counts_from(self, start):
        """Return a dict from states to how many words lead there from a state; and the bits of those without an end."""
        incoming = {start: 0}
        edges = {}
        order = [start]
        while len(edges) < len(order):
            state = order[len(edges)]
            edges[state] = self.edges(state)
            for target, _ in edges[state]:
                if target not in incoming:
                    incoming[target] = 0
                    order.append(target)
                incoming[target] = incoming[target] + 1
        # What is on a loop, or behind one, is never ready.
        counts = {start: 1}
        ready = [start] if incoming[start] == 0 else []
        while ready:
            state = ready.pop()
            for target, many in edges[state]:
                counts[target] = counts.get(target, 0) + counts[state] * many
                incoming[target] = incoming[target] - 1
                if incoming[target] == 0:
                    ready.append(target)
        endless = sum([1 << state for state in order if incoming[state] > 0])
        return {state: counts[state] for state in order if incoming[state] == 0}, endless

    def one_longer(self, counts):
        """Return the dict from states to how many words lead there, by one character more than a dict tells."""
        longer = {}
        for state, many in counts.items():
            for target, chars in self._edges[state] or self.edges(state):
                longer[target] = longer.get(target, 0) + many * chars
        return longer

    def _one_longer_at_once(self, counts):
        """Return the dict as one_longer does, by the moves as they are, from which perhaps no marked word follows."""
        longer = {}
        for state, many in counts.items():
            for target, chars in zip(self.machine.moves[state], self._sizes):
                longer[target] = longer.get(target, 0) + many * chars
        return longer

    def count_of(self, size):
        """Return how many words of so many characters have a mark."""
        counts = {0: 1}
        if size <= SHORT:
            for _ in range(size):
                counts = self._one_longer_at_once(counts)
        else:
            distances = self.distances()
            farthest = max([distance for distance in distances if distance is not None], default=0)
            for left in range(size - 1, -1, -1):
                counts = self.one_longer(counts)
                # What needs more characters than are left for a mark is followed no further.
                if left < farthest:
                    counts = {state: many for state, many in counts.items() if distances[state] <= left}
        return sum([many for state, many in counts.items() if self.machine.marks[state]])

    def least(self):
        """Return the least word with a mark, or None."""
        marks = self.machine.marks
        # States are numbered by least words, so that each one is met first from the least word ahead of it.
        goal = marks.index(1) if 1 in marks else 0
        ways = [(0, 0)]
        for state, row in enumerate(self.machine.moves):
            while len(ways) in row and len(ways) <= goal:
                ways.append((state, row.index(len(ways))))
            if len(ways) > goal:
                break
        chars = []
        while goal > 0:
            goal, group = ways[goal]
            chars.append(self.groups[group][0])
        return "".join(chars[::-1]) if chars else None

    def least_from(self, start):
        """Return a dict from states to the least words that lead there from a state, the least one first."""
        distances = self.distances()
        words = {start: ""}
        order = [start]
        at = 0
        while at < len(order):
            state = order[at]
            for group, target in zip(self.groups, self.machine.moves[state]):
                if target not in words and distances[target] is not None:
                    words[target] = words[state] + group[0]
                    order.append(target)
            at += 1
        return words

    def one_further(self, goals):
        """Return the dict of the states from which a move leads to one of the goals, a dict of states."""
        sources = self.sources()
        return {source: True for state in goals for source in sources[state]}

    def least_words(self, start, goals, most):
        """Return the list of the least words, at most so many, from a state to the goals.

        The words have one character less than goals has dicts; the dict k has the states from which the end can
        be reached by k characters.
        """
        found = [("", start)]
        for goal in goals[-2::-1]:
            longer = []
            for word, state in found:
                ways = self._choices.get(state) or self.choices(state)
                # From each of these states a way leads on; if there is just one, it does.
                if len(ways) > 1:
                    ways = [way for way in ways if way[1] in goal]
                if len(ways) == 1:
                    group, target = ways[0]
                    for char in group:
                        longer.append((word + char, target))
                else:
                    steps = sorted([(char, target) for group, target in ways for char in group])
                    longer.extend([(word + char, target) for char, target in steps])
                if len(longer) >= most:
                    break
            found = longer[:most]
        return [word for word, _ in found]

    def words(self, most):
        """Return the list of the least words with a mark: so many, or all if there are fewer."""
        found = []
        goals = [{state: True for state, mark in enumerate(self.machine.marks) if mark}]
        while len(found) < most:
            goals.append(self.one_further(goals[-1]))
            if not goals[-1]:
                break
            if 0 in goals[-1]:
                found.extend(self.least_words(0, goals, most - len(found)))
        return found
