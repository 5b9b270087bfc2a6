"""Few words that stand for all: what rules show of any word, they show of one of these.

Two words are treated alike by rules if they fit the same shapes and none of them is named, as a word
ahead or as a text that is put. So there is a sample for each word that is named, and the least other
word for each set of shapes that a word may fit.
"""

from blackbars.machines import char_groups, shapes_machine
from blackbars.views import shown_by
from blackbars.words import CHARACTERS, PLACE_OF, is_word, word_key


def _steps_from(machine, groups, word, state, ways):
    """Return the tuples (longer word, state, whether it leads to a named word), ascending, of which others are copies.

    From a word that leads to named words (ways has them and what they begin with) each group of characters has
    the steps that stay on these ways and the least one that leaves them.
    """
    row = machine.moves[state]
    if word not in ways:
        return [(word + group[0], target, False) for group, target in zip(groups, row)]
    found = []
    has_left = [False] * len(row)
    for char in CHARACTERS:
        at = machine.codes[PLACE_OF[char]]
        stays = word + char in ways
        if stays or not has_left[at]:
            found.append((word + char, row[at], stays))
            has_left[at] = has_left[at] or not stays
    return found


def _samples(machine, named):
    """Return the tuples (word, mark), in order, for all named words and the least other word of each mark."""
    ways = {word[:size]: True for word in named for size in range(len(word) + 1)}
    ways[""] = True
    groups = char_groups(machine.codes)
    found = []
    known = {}
    met = {}
    words = [("", 0)]
    while words:
        longer = []
        for begin, known_state in words:
            for word, state, stays in _steps_from(machine, groups, begin, known_state, ways):
                mark = machine.marks[state]
                if word in named:
                    found.append((word, mark))
                elif mark not in known:
                    known[mark] = True
                    found.append((word, mark))
                if stays or state not in met:
                    longer.append((word, state))
                    if not stays:
                        met[state] = True
        words = longer
    return found


class Survey:
    """Samples for some views, and for more shapes and more named words."""

    def __init__(self, views, shapes, names):
        rules = [rule for view in views for rule in view]
        all_shapes = {shape: True for _, shape, _ in rules}
        all_shapes.update({shape: True for shape in shapes})
        named = {word: True for behind, _, _ in rules for word in behind if word != ""}
        named.update({act[1]: True for _, _, act in rules if act[0] == "put" and is_word(act[1])})
        named.update({word: True for word in names if word != ""})
        machine, bits = shapes_machine(list(all_shapes))
        self.bit_of = {shape: bit for shape, bit in zip(list(all_shapes), bits)}
        self.samples = _samples(machine, named)
        # Behind all words that are not named things are as behind the least one of these.
        other = min([word for word, _ in self.samples if word not in named], key=word_key)
        self.all_aheads = [""] + sorted(list(named) + [other], key=word_key)
        self.other = other

    def rules(self, view, ahead):
        """Return the list of the tuples (place, bit, act) of the rules of a view for words behind a word (or "")."""
        return [(place, self.bit_of[shape], act) for place, (behind, shape, act) in enumerate(view)
                if not behind or ahead in behind]


def done_of(rules, mark):
    """Return the first tuple of some rules that is for a word with a mark, or None."""
    for rule in rules:
        if mark & rule[1]:
            return rule
    return None


def told_of(rules, word, mark):
    """Return the list of what some rules show of a word with a mark."""
    rule = done_of(rules, mark)
    return [word] if rule is None else shown_by(rule[2], word)
