"""What some views show together of the secrets behind one word, and of a word behind such a secret."""

from blackbars.lots import least_lot, none_lot, word_lot
from blackbars.parts import Part
from blackbars.words import lesser_word, word_key


class Sight:
    """The secrets where rules and secrets are as behind some word, in parts by the kinds of what is shown.

    Some secrets are named by rules as the word ahead; by the word behind it, it may show which of them a
    secret is, or that it is none of them, for which None stands.
    """

    def __init__(self, atlas, rules, secret_bits):
        self._atlas = atlas
        self._rules = rules
        self._kinds = {}
        self._states = {}
        self._parts = {}
        self._rules_behind = {}
        self._unlike = {}
        self._lot = None
        self._furthers = None
        # What later questions have worked out, for the next ones.
        self.worked_out = {}
        for state, label in enumerate(atlas.machine.marks):
            if atlas.is_secret(label, secret_bits):
                self._states.setdefault(self._kinds_of(label), []).append(state)
        names = atlas.names([place for place, _ in rules])
        self._names = sorted([word for word in names if atlas.is_secret(atlas.label(word), secret_bits)], key=word_key)

    def _kinds_of(self, label):
        if label not in self._kinds:
            self._kinds[label] = tuple([self._atlas.kind(place, rules, label) for place, rules in self._rules])
        return self._kinds[label]

    def _lot_of(self, states):
        marks = [0] * len(self._atlas.machine.moves)
        for state in states:
            marks[state] = 1
        return least_lot(self._atlas.machine, marks)

    def all_secrets(self):
        """Return the lot of the secrets."""
        if self._lot is None:
            self._lot = self._lot_of([state for states in self._states.values() for state in states])
        return self._lot

    def least(self):
        """Return the least secret, or None."""
        least = min([states[0] for states in self._states.values()], default=None)
        return None if least is None else self._atlas.least_words()[least]

    def part_with(self, kinds):
        """Return the part of the secrets of which some kinds are shown."""
        if kinds not in self._parts:
            self._parts[kinds] = Part(self._lot_of(self._states[kinds]), kinds)
        return self._parts[kinds]

    def least_kinds(self):
        """Return the list of the tuples (least secret, kinds of what is shown of it) for the parts, in order."""
        pairs = sorted([(states[0], kinds) for kinds, states in self._states.items()])
        return [(self._atlas.least_words()[state], kinds) for state, kinds in pairs]

    def parts(self):
        """Return the list of all parts."""
        return [self.part_with(kinds) for kinds in self._states]

    def part_of(self, word):
        """Return the part of a secret."""
        return self.part_with(self._kinds_of(self._atlas.label(word)))

    def least_unlike(self, word):
        """Return the least secret of which the views show other than of a secret, or None."""
        if word not in self._unlike:
            own = self._kinds_of(self._atlas.label(word))
            best = self.part_with(own).least_unlike(word)
            for kinds, states in self._states.items():
                if kinds != own:
                    best = lesser_word(best, self._atlas.least_words()[states[0]])
            self._unlike[word] = best
        return self._unlike[word]

    def are_like(self, first, second):
        """Return whether the views show the same of two secrets."""
        if self._kinds_of(self._atlas.label(first)) != self._kinds_of(self._atlas.label(second)):
            return False
        part = self.part_of(first)
        return part.reading(first) == part.reading(second)

    def names_like(self, word):
        """Return the list of the named secrets of which the views show the same as of a secret."""
        return [name for name in self._names if self.are_like(name, word)]

    def names_together(self):
        """Return the list of the lists of named secrets of which the views show the same."""
        together = [self.names_like(name) for name in self._names]
        return [names for name, names in zip(self._names, together) if names[0] == name]

    def least_other(self, lot):
        """Return the least word of a lot that is no named secret, or None."""
        others = [word for word in lot.words(len(self._names) + 1) if word not in self._names]
        return others[0] if others else None

    def _kinds_at(self, ahead, label):
        """Return the kinds of what is shown of a word with a mark behind a named secret, or behind None."""
        if ahead not in self._rules_behind:
            self._rules_behind[ahead] = [(place, self._atlas.rules(place, ahead)) for place, _ in self._rules]
        return tuple([self._atlas.kind(place, rules, label) for place, rules in self._rules_behind[ahead]])

    def kinds_behind(self, word, further):
        """Return the kinds of what is shown of a further word behind a secret."""
        return self._kinds_at(word if word in self._names else None, self._atlas.label(further))

    def furthers(self):
        """Return the list of tuples (word, dict): of the words behind a secret that tell secrets apart, the least ones.

        The dict has the kinds of what is shown of the word behind each named secret, and None. For each way to
        tell these apart there is one word.
        """
        if self._furthers is None:
            self._furthers = self._all_furthers()
        return self._furthers

    def _all_furthers(self):
        found = []
        known = {}
        if not self._names:
            return found
        for state, label in enumerate(self._atlas.machine.marks):
            if state == 0 or label in known:
                continue
            known[label] = True
            kinds = {name: self._kinds_at(name, label) for name in [None] + self._names}
            number = {}
            ways = tuple([number.setdefault(each, len(number)) for each in kinds.values()])
            if len(number) > 1 and ways not in known:
                known[ways] = True
                found.append((self._atlas.least_words()[state], kinds))
        return found

    def how_many(self, word, further):
        """Return among how many words a secret is hidden before a further word (or None), None for endless."""
        many = self.part_of(word).how_many(word)
        if further is None or not self._names:
            return many
        own, other = self.kinds_behind(word, further), self._kinds_at(None, self._atlas.label(further))
        kinds = [self.kinds_behind(name, further) for name in self.names_like(word)]
        if own != other:
            return kinds.count(own)
        return None if many is None else many - (len(kinds) - kinds.count(own))

    def words(self, word, further):
        """Return the lot of the words among which a secret is hidden before a further word (or None)."""
        found = self.part_of(word).lot_like(word)
        if further is None or not self._names:
            return found
        own, other = self.kinds_behind(word, further), self._kinds_at(None, self._atlas.label(further))
        named = none_lot()
        for name in self.names_like(word):
            if (self.kinds_behind(name, further) == own) != (own == other):
                named = named | word_lot(name)
        return found - named if own == other else named

    def least_unlike_before(self, word, further):
        """Return the least secret for which the views show other than for a secret, before a further word (or None)."""
        best = self.least_unlike(word)
        if further is None or not self._names:
            return best
        own = self.kinds_behind(word, further)
        for name in self._names:
            if self.kinds_behind(name, further) != own:
                best = lesser_word(best, name)
        if self._kinds_at(None, self._atlas.label(further)) != own:
            best = lesser_word(best, self.least_other(self.all_secrets()))
        return best

    def least_telling(self):
        """Return the least word behind a secret of which the views do not show the same behind all secrets, or None."""
        has_other = bool(self._names) and self.least_other(self.all_secrets()) is not None
        for further, kinds in self.furthers():
            told = [kinds[name] for name in self._names] + ([kinds[None]] if has_other else [])
            if told.count(told[0]) < len(told):
                return further
        return None
