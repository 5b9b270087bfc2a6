"""The words of a part that are hidden among few words.

Words are hidden together if they begin, and end, with the same characters. How many there are hangs on
the states that the begin leads to and the end comes from, and, if words of the part are so short that
begin and end overlap, on which characters of the two are equal.
"""

from blackbars.words import PLACE_OF, lesser_word


def steps_between(part, start, most):
    """Return the list of the dicts from states to how many words of so many characters lead there.

    More than most are told as most. From the end of the list on they repeat, beginning with the place that is
    returned behind it.
    """
    found = []
    place_of = {}
    counts = {start: 1}
    key = tuple(sorted(counts.items()))
    while key not in place_of:
        place_of[key] = len(found)
        found.append(counts)
        longer = part.lot.paths().one_longer(counts)
        counts = {state: min(many, most) for state, many in longer.items()}
        key = tuple(sorted(counts.items()))
    return found, place_of[key]


def sum_at(counts, goals):
    """Return the sum of what a dict from states tells for states of some bits."""
    return sum([many for state, many in counts.items() if (goals >> state) & 1])


def _least_sized_between(part, state, goals, size):
    steps = [{at: True for at in range(len(part.lot.machine.moves)) if (goals >> at) & 1}]
    for _ in range(size):
        steps.append(part.lot.paths().one_further(steps[-1]))
    return part.lot.paths().least_words(state, steps, 1)[0]


def _has_short(part):
    # Each word of a part is at least as long as its begin and as its end, so that there are both then.
    return len(part.lot.least()) < part.front + part.back


def _least_sized(part, number):
    # Of a word so short that begin and end overlap nothing is hidden.
    if _has_short(part):
        return part.lot.least()
    best = None
    for state, (begin, _) in part.all_begins().items():
        steps, _ = steps_between(part, state, number)
        for goals, (end, _) in part.all_ends().items():
            for size, counts in enumerate(steps):
                if 0 < sum_at(counts, goals) < number:
                    best = lesser_word(best, begin + _least_sized_between(part, state, goals, size) + end)
                    break
    return best


def _options(groups, text):
    """Return the characters to be tried behind a text: those in it and, of each group, the least other one."""
    fresh = []
    for group in groups:
        others = [char for char in group if char not in text]
        fresh.extend(others[:1])
    return sorted(set(fresh + list(text)))


def _kind_text(part, text):
    """Return a text with the least character of its group in the place of each character."""
    codes = part.lot.machine.codes
    return "".join([part.groups[codes[PLACE_OF[char]]][0] for char in text])


class Ends:
    """The begins and ends of the words of a part that has both, by groups of characters."""

    def __init__(self, part):
        self.part = part
        self.machine = part.lot.machine
        goals = part.goals_before("")
        found = {"": goals}
        for _ in range(part.back):
            found = {group[0] + text: part.before(known, at) for text, known in found.items()
                     for at, group in enumerate(part.groups) if part.before(known, at)}
        self._goals_of = found
        self._open = {}

    def open_ends(self, state, most):
        """Return a dict of what ends begin with before which, behind a state, at most so many words stand."""
        if (state, most) not in self._open:
            found = {}
            for text, goals in self._goals_of.items():
                many = self.part.between(state, goals)
                if many is not None and many <= most:
                    found.update({text[:size]: True for size in range(len(text) + 1)})
            self._open[(state, most)] = found
        return self._open[(state, most)]

    def ends_for(self, goals):
        """Return a dict of what the ends begin with that come from just the states of some bits."""
        found = {}
        for text, known in self._goals_of.items():
            if known == goals:
                found.update({text[:size]: True for size in range(len(text) + 1)})
        return found

    def toward(self, state):
        """Return the list of the bits of the states from which one comes to a state by 0, 1, .. characters."""
        found = [1 << state]
        for _ in range(self.part.front):
            bits = 0
            for at in range(len(self.part.groups)):
                bits = bits | self.part.before(found[-1], at)
            found.append(bits)
        return found


def _least_short(ends, text, state, size, number):
    """Return the least word of so many characters, too short for its ends, that begins so and is hidden among fewer."""
    part = ends.part
    if len(text) == size:
        many = part.how_many(text) if ends.machine.marks[state] else None
        return text if many is not None and many < number else None
    for char in _options(part.groups, text):
        longer, target = text + char, ends.machine.run(state, char)
        if part.lot.paths().distances()[target] is None:
            continue
        if len(longer) >= part.front:
            # The word itself is one more than those that are long enough.
            known = ends.open_ends(ends.machine.run(0, longer[:part.front]), number - 2)
            if _kind_text(part, longer[size - part.back:]) not in known:
                continue
        found = _least_short(ends, longer, target, size, number)
        if found is not None:
            return found
    return None


def _least_pair(ends, text, state, toward, known, most):
    """Return the least begin and end, as one text that begins so, with at most so many short words."""
    part = ends.part
    front = part.front
    if len(text) == front + part.back:
        return text if part.many_short(text[:front], text[front:]) <= most else None
    for char in _options(part.groups, text):
        longer, target = text + char, state
        if len(longer) <= front:
            target = ends.machine.run(state, char)
            if not (toward[front - len(longer)] >> target) & 1:
                continue
        elif _kind_text(part, longer[front:]) not in known:
            continue
        found = _least_pair(ends, longer, target, toward, known, most)
        if found is not None:
            return found
    return None


def _least_long(part, ends, number):
    """Return the least word long enough for its ends that is hidden among fewer words, or None."""
    best = None
    most_short = min(part.front, part.back)
    for state, (begin, _) in part.all_begins().items():
        for goals, (end, _) in part.all_ends().items():
            many = part.between(state, goals)
            if many is None or not 0 < many < number:
                continue
            middle = part.least_between(state, goals)
            if many + most_short < number:
                best = lesser_word(best, begin + middle + end)
                continue
            text = _least_pair(ends, "", 0, ends.toward(state), ends.ends_for(goals), number - 1 - many)
            if text is not None:
                best = lesser_word(best, text[:part.front] + middle + text[part.front:])
    return best


def least_below(part, number):
    """Return the least word of a part that is hidden among fewer words than a number, or None."""
    if number < 2:
        return None
    if part.keeps:
        return part.lot.least()
    if part.is_sized:
        return _least_sized(part, number)
    if part.front == 0 or part.back == 0:
        return _least_long(part, None, number)
    if "ends" not in part.worked_out:
        part.worked_out["ends"] = Ends(part)
    ends = part.worked_out["ends"]
    for size in range(max(part.front, part.back), part.front + part.back):
        found = _least_short(ends, "", 0, size, number)
        if found is not None:
            # A word that is long enough has more characters.
            return found
    return _least_long(part, ends, number)


def _least_many_sized(part, most):
    found = [1] if _has_short(part) else []
    for state in part.all_begins():
        steps, _ = steps_between(part, state, most)
        found.extend([sum_at(counts, goals) for goals in part.all_ends() for counts in steps])
    return min([many for many in found if 0 < many < most], default=None)


def least_many(part, most):
    """Return the least number among how many words a word of a part is hidden, or None if it is not below most."""
    if part.keeps:
        return 1
    if part.is_sized:
        return _least_many_sized(part, most)
    counts = [part.between(state, goals) for state in part.all_begins() for goals in part.all_ends()]
    least = min([many for many in counts if many], default=most)
    most_short = min(part.front, part.back)
    if most_short == 0:
        return least if least < most else None
    # Short words alone are at most so many; with others they make these a little more.
    for many in sorted(set(list(range(1, most_short + 1)) + list(range(least, least + most_short + 1)))):
        if many < most and least_below(part, many + 1) is not None:
            return many
    return None
