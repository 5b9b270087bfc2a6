"""Shown logs that a view masks once more."""

from blackbars.survey import Survey, told_of
from blackbars.views import masked, shown
from blackbars.words import is_word


def _masked_again(view, line):
    """Return the list of what a view shows of a line of shown words."""
    found = []
    ahead = ""
    for text in line:
        # A text with a * is no word: it fits no shape and is kept.
        found.extend(shown(view, ahead, text) if is_word(text) else [text])
        ahead = text
    return found


def masked_twice(view, log):
    """Return the log that a view makes of the log as it masks it."""
    return [_masked_again(view, line) for line in masked(view, log)]


class Ways:
    """What a view shows of each sample behind each word; words behind which it has the same rules have one key."""

    def __init__(self, view):
        survey = Survey([view], [], [])
        self._other = survey.other
        self._keys = {}
        self._told = {}
        for ahead in survey.all_aheads:
            rules = survey.rules(view, ahead)
            key = tuple([place for place, _, _ in rules])
            self._keys[ahead] = key
            if key not in self._told:
                self._told[key] = {word: told_of(rules, word, mark) for word, mark in survey.samples}

    def key(self, ahead):
        """Return the key for a word ahead, or for a text with a *, behind which the rules are as behind most words."""
        return self._keys[ahead] if ahead in self._keys else self._keys[self._other]

    def told(self, key):
        """Return the dict from the samples to the lists of what is shown of them."""
        return self._told[key]


def _further(ways, behind, shown_behind):
    """Return a dict from the keys that one more word leads to, to the least such word.

    The keys are those behind the word in the log and behind what is shown in the masked log. None is the key
    of words of which a text is shown that is shown otherwise again.
    """
    found = {}
    again = ways.told(shown_behind)
    for word, told in ways.told(behind).items():
        keys = (ways.key(word), shown_behind)
        if told:
            keys = (ways.key(word), ways.key(told[0]))
            # A text without a * is the word itself or one that is put, so there is a sample for it.
            if is_word(told[0]) and again[told[0]] != told:
                keys = None
        found.setdefault(keys, word)
    return found


def first_twice(view):
    """Return the least log that a view masks to what it masks otherwise again, or None."""
    ways = Ways(view)
    begin = (ways.key(""), ways.key(""))
    reached = {begin: True}
    lines = {begin: (0, [])}
    while lines:
        longer = {}
        for (behind, shown_behind), (many, line) in lines.items():
            for keys, word in _further(ways, behind, shown_behind).items():
                found = (many + len(word), line + [word])
                if keys not in reached and (keys not in longer or found < longer[keys]):
                    longer[keys] = found
        if None in longer:
            return [longer[None][1]]
        reached.update({keys: True for keys in longer})
        lines = longer
    return None
