"""One machine for all shapes of a case, by whose marks it is told what views show of words.

What a view shows of a word is told by a kind, a tuple: ("put", text) for a text that a rule of the view
puts, by whichever rule it is shown; ("first", k) and ("last", k) for other texts of so many characters of
the word; ("stars", 0) and ("keep", 0) for others; ("out", 0) if nothing is shown. So of one word two
rules show the same exactly if the kinds are equal.
"""

from blackbars.machines import char_groups, shapes_machine
from blackbars.reads import begin_shape, end_shape, exact_shape, size_shape
from blackbars.shapes import fits
from blackbars.sights import Sight
from blackbars.words import is_word


def _most(view, kind):
    return max([act[1] for _, _, act in view if act[0] == kind], default=0)


def _readings(view, text):
    """Return the tuples (kind, shown characters, shape): the words of which the view may show a text without put."""
    found = []
    if is_word(text):
        found.append(("keep", 0, exact_shape(text)))
    if text.strip("*") == "" and ("stars",) in [act for _, _, act in view]:
        found.append(("stars", 0, size_shape(len(text))))
    if text[-1] == "*" and is_word(text[:-1]) and len(text) - 1 <= _most(view, "first"):
        found.append(("first", len(text) - 1, begin_shape(text[:-1])))
    if text[0] == "*" and is_word(text[1:]) and len(text) - 1 <= _most(view, "last"):
        found.append(("last", len(text) - 1, end_shape(text[1:])))
    return found


def _put_texts(view):
    """Return a dict from kinds to lists of tuples (shown characters, text, shape), for the texts that a view puts."""
    found = {}
    for _, _, act in view:
        if act[0] == "put":
            for kind, size, shape in _readings(view, act[1]):
                found.setdefault(kind, []).append((size, act[1], shape))
    return found


class Atlas:
    """What views and secrets that go together tell of words."""

    def __init__(self, views, secrets):
        self._views = views
        self._secrets = secrets
        self._texts = [_put_texts(view) for view in views]
        shapes = {shape: True for _, shape in secrets}
        named = {exact_shape(word): True for behind, _ in secrets for word in behind
                 if any([fits(shape, word) for shape in shapes])}
        shapes.update(named)
        shapes.update({shape: True for view in views for _, shape, _ in view})
        shapes.update({row[2]: True for texts in self._texts for rows in texts.values() for row in rows})
        most = max([max(_most(view, "first"), _most(view, "last")) for view in views])
        shapes.update({size_shape(size): True for size in range(1, most)})
        self.machine, bits = shapes_machine(list(shapes))
        self._bit_of = {shape: bit for shape, bit in zip(list(shapes), bits)}
        self._named_bits = sum([self._bit_of[shape] for shape in named])
        self._size_bits = [self._bit_of[size_shape(size)] for size in range(1, most)]
        self._least_words = []
        self._sights = {}

    def label(self, word):
        """Return the mark of a word."""
        return self.machine.marks[self.machine.run(0, word)]

    def least_words(self):
        """Return the list of the least words that lead to the states."""
        if not self._least_words:
            found = {0: ""}
            groups = char_groups(self.machine.codes)
            for state, row in enumerate(self.machine.moves):
                for group, target in zip(groups, row):
                    if target not in found:
                        found[target] = found[state] + group[0]
            self._least_words = [found[state] for state in range(len(self.machine.moves))]
        return self._least_words

    def aheads(self):
        """Return the strings that stand in behinds of secrets, ascending."""
        return sorted(set([ahead for behind, _ in self._secrets for ahead in behind]))

    def secret_bits(self, ahead):
        """Return the bits of which a secret behind a word (or "") has one."""
        shapes = {shape: True for behind, shape in self._secrets if ahead in behind}
        return sum([self._bit_of[shape] for shape in shapes])

    def is_secret(self, label, secret_bits):
        """Return whether a word with a mark is secret where secrets have some bits."""
        return label & secret_bits != 0 and label & self._named_bits == 0

    def names(self, places):
        """Return the words that stand in behinds of rules of the views at some places, ascending."""
        return sorted(set([ahead for place in places for behind, _, _ in self._views[place] for ahead in behind
                           if ahead != ""]))

    def rules(self, place, ahead):
        """Return the tuple of the tuples (bit, act) for the rules that the view at a place has behind a word.

        None stands for a word that no rule names.
        """
        return tuple([(self._bit_of[shape], act) for behind, shape, act in self._views[place]
                      if not behind or ahead in behind])

    def _cut(self, most, label):
        """Return how many characters of a word with a mark are shown if at most so many are."""
        for at, bit in enumerate(self._size_bits[:most - 1]):
            if label & bit:
                return at + 1
        return most

    def kind(self, place, rules, label):
        """Return the kind of what the view at a place shows of a word with a mark by some of its rules."""
        act = ("keep",)
        for bit, done in rules:
            if label & bit:
                act = done
                break
        if act[0] == "put":
            return act
        size = self._cut(act[1], label) if len(act) == 2 else 0
        for text_size, text, shape in self._texts[place].get(act[0], ()):
            if text_size == size and label & self._bit_of[shape]:
                return ("put", text)
        return (act[0], size)

    def sight(self, ahead, places):
        """Return what the views at some places show together of the secrets behind a word (or "")."""
        seen = sorted(set(places))
        rules = tuple([(place, self.rules(place, ahead)) for place in seen])
        key = (rules, self.secret_bits(ahead))
        if key not in self._sights:
            self._sights[key] = Sight(self, rules, self.secret_bits(ahead))
        return self._sights[key]


def atlas_of(case):
    """Return the atlas of a case, made when it is first asked for."""
    if "atlas" not in case.worked_out:
        case.worked_out["atlas"] = Atlas(case.views, case.secrets)
    return case.worked_out["atlas"]
